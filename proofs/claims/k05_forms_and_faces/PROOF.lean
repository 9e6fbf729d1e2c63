import PyProof.Rows.All
import Wide.All
import OpenK.AllK
import Wide.FinOn
import HandS.Base
import HandS.Call
import HandS.List
import HandS.Ends
import HandS.EndBits
import HandS.Words
import HandS.Wide
import HandS.Conv
import HandS.Style
import HandS.TupAny
import HandS.ForMost
import HandS.Zip
import HandS.Walk
import HandS.Evl
import HandS.Exc
import HandS.ExcOwn
import HandS.ExcInit
import HandS.ExcField
import HandS.WordsExc
import HandS.TryMany
import HandS.TupMul
import HandS.IsInst
import HandS.Gcd
import HandS.Strs
import KE.KMathGC
import KE.GoesNew
import KE.GoesMore
import KE.KExcSuper
import HandS.ClsMeth
import PySem.Challenge.RW_halftruths_k05_forms_and_faces
set_option Elab.async false
set_option linter.all false
set_option maxRecDepth 100000
set_option maxHeartbeats 2000000
/-! # defs whose callers stand under no guard: what repr of a tuple or a list wants -/
namespace Gd
open PySem PySem.Spec PyProof.Rows L2

/-- as FnOk, for callers under no guard -/
structure FnG (P : Program) (w : World) (K : PySem.W.Frag) (mg : Str → Option Value) (base : Heap) (CX : CXT)
    (k : Nat) (f : Addr) (fd : FuncData) (ps : List Str) (sp : Sp) : Prop where
  len : ∀ vs H Q E, sp vs H Q E → vs.length = ps.length
  run : ∀ (A : Around) (outer : List Env) (s : Shared) (H : Hp) (args : Args) (us : List Value) (vs : List V) (Q : VK) (E : XK),
    Room k A → A.guards = some [] → Env0 P w K mg base A outer s H → BindsTo s fd args (ps.zip us) → Vals vs us →
    sp vs H Q E → codeAny (model P w) A (.call (.ref f) args) (CR CX outer P w H s Q E) s

section
variable {P : Program} {w : World} {K : PySem.W.Frag} {mg : Str → Option Value} {base : Heap} {CX : CXT} {k : Nat} {f : Addr} {fd : FuncData}
  {ps : List Str} {sp : Sp}
theorem FnG.of (F : FnOk P w K mg base CX k f fd ps sp) : FnG P w K mg base CX k f fd ps sp :=
  ⟨F.len, fun A outer s H args us vs Q E hr _ => F.run A outer s H args us vs Q E hr⟩
end

section
variable {X : Cx} {CX : CXT} {k : Nat} {f : Addr} {fd : FuncData} {ps : List Str} {sp : Sp} {dvs : List V} {ds : List Value} {E : XK}
  {x : Str} {p pos : Pos} {e : Expr} {es : List Expr} {t : TA}
theorem runG {pins : List (Addr × Obj)} {σ : L2.St} {H : Hp} {s : Shared} {Q : VK} {us : List Value} {vs : List V}
    (F : FnG X.prog X.w X.K X.mg X.base CX k f fd ps sp) (hr : Room k X.A) (gd : X.A.guards = some []) (hb : Binds X.K fd ps ds)
    (hd : Vals dvs ds) (hx : Passes CX X E) (I : Inv X pins σ H s) (r : Vals vs us) (h : sp (vs ++ dvs) H Q E) :
    wpAny (model X.prog X.w) X.A (call (.ref f) us) (EP X pins σ Q) X.xe s := by
  have both : Vals (vs ++ dvs) (us ++ ds) := r.append hd
  have many : (us ++ ds).length = ps.length := both.length.symm.trans (F.len _ _ _ _ h)
  have bound := hb s us I.kIn many
  refine wpAny_call (codeAny_mono (F.run X.A X.stack s H ⟨us, []⟩ (us ++ ds) (vs ++ dvs) Q E hr gd I.env0 bound both h) ?_)
  rintro (e | fl) s' q
  · exact hx pins σ H s e s' I q
  · cases fl <;> first | exact I.after q | exact q.elim
/-- f(e, ..) -/
theorem pe_callG (F : FnG X.prog X.w X.K X.mg X.base CX k f fd ps sp) (hr : Room k X.A) (gd : X.A.guards = some []) (hg : Gl X x)
    (hm : X.mg x = some (.ref f)) (hk : PySem.W.keepIn X.K (.ref f) = true) (hb : Binds X.K fd ps ds) (hd : Vals dvs ds) (hx : Passes CX X E)
    (ha : PA X (e :: es) t) (hdb : (x == ("__debug__" : Str)) = false := by decide)
    (he : starEach (e :: es) X.env = (false, eval e X.env) :: starEach es X.env := by rfl)
    (hpl : (backTo pos (starEach es X.env)).any (·.1) = false := by rfl) :
    PE X (.Call (.Name x p) (e :: es) [] pos) (tCall sp dvs E t) := by
  constructor
  intro pins s σ H Q I h
  apply wpAny_Call_Name_kw
  apply ld_glob I hg hm _ hdb
  refine PySem.W.callWith_K (h₀ := X.base) I.ok.mod.kin hk (thn (ha.run pos pins s σ H _ I h) ?_) he hpl
  rintro us s1 ⟨vs, H1, I1, r, q⟩
  exact ⟨I1.kIn, runG F hr gd hb hd hx I1 r q⟩
end

section
variable {P : Program} {w : World} {K : PySem.W.Frag} {mg : Str → Option Value} {base : Heap}
/-- a def of the text by its body, where no guard stands around -/
theorem okG {x qual : Str} {st : Stmt} {f : Addr} {fd : FuncData} {N ps : List Str} {k : Nat} {sp : Sp} (F : Fun K x qual st f fd)
    (S : FnScope N ps (defScope st)) (len : ∀ vs H Q E, sp vs H Q E → vs.length = ps.length)
    (body : ∀ (cdv : Value) (A : Around) (outer : List Env) (s : Shared) (H : Hp) (vs : List V) (Q : VK) (E : XK),
      Room k (A.deeper (envOfC qual (defScope st) s.heap.objs.size f cdv)) →
      (A.deeper (envOfC qual (defScope st) s.heap.objs.size f cdv)).guards = some [] → sp vs H Q E →
      ∃ t, PSs (cxOf CX0 P w K mg base N qual (defScope st) f cdv A outer s H E).nox (defBody st) t ∧
        t { nx := fun _ H' => Q .non H', rt := Q } (start N vs) H) :
    FnG P w K mg base CX0 (k + 1) f fd ps sp := by
  obtain ⟨oc, od, kV, doc, pm, an, cdv, ct, osl, rfl, lk, code⟩ := F.ex
  constructor
  · exact len
  intro A outer s H args us vs Q E hr gd e0 hb r h
  have many := len _ _ _ _ h
  have KX : K.In s.heap := e0.mod.kin.keeps fun b o q => (e0.bs b o q).1
  have lim : s.heap.NoLimit := e0.mod.nolimit.keeps fun b o q => (e0.bs b o q).1
  have kinds : ∀ y ∈ ps.zip us, (defScope st).names.lookup y.1 = some .local ∨ ((defScope st).names.lookup y.1 = some .cell ∧
      ((cellsFrom (s.heap.objs.size + 1) (defScope st).names []).lookup y.1).isSome = true) := by
    rintro ⟨n, v⟩ hy
    rcases S.par n (List.of_mem_zip hy).1 with q | q
    · left; exact q
    · right; exact ⟨q, PySem.W.cellsFrom_some _ _ _ (.inl q)⟩
  refine codeAny_call_function hr.depth (KX _ _ lk) rfl S.co S.gen rfl (PySem.W.codeRec_of KX code) (hb _ _ _ _ ?_)
  refine wpAny_newFunctionEnv_cells S.kind kinds ?_
  rintro env rfl s1 x
  refine ⟨lim.keeps x.toInCall.keep, codeAny_func ?_⟩
  obtain ⟨t, ht, q⟩ := body cdv A outer s H vs Q E (hr.deeper _) (show (A.deeper _).guards = some [] from gd) h
  have I : Inv (cxOf CX0 P w K mg base N qual (defScope st) f cdv A outer s H E) [] (start N vs) H s1 := inv_start S hr.hd e0 many r x
  refine wpAny_mono (ht.nox.run [] s1 (start N vs) H _ I q) ?_ fun e s' z => z
  rintro fl s' z
  cases fl with
  | ret u =>
    obtain ⟨v, σ', H', J, rv, q⟩ := z
    exact ⟨v, H', J.os, J.bare, J.base, J.hok, rv, q⟩
  | next =>
    obtain ⟨σ', H', J, q⟩ := z
    exact ⟨V.non, H', J.os, J.bare, J.base, J.hok, rfl, q⟩
  | brk => obtain ⟨_, _, _, q⟩ := z; exact q.elim
  | cont => obtain ⟨_, _, _, q⟩ := z; exact q.elim
end

/-! ## the end: the law is called where no guard stands -/
section
open Att
theorem law_callG {P : Program} {w : World} {K : PySem.W.Frag} {mg mb : Str → Option Value} {k : Nat} {fa a : Addr} {fd : FuncData} {x : Str}
    {sp : Sp} {s : Shared} {vs : List Value} {ns : List Int}
    (KX : K.In s.heap) (hns : s.heap.Ns mainGlobals mg) (hb : s.heap.Ns builtinsNs mb) (hbb : ∀ x : Str, x ≠ "__name__" → mb x = bootBuiltins x)
    (hlim : s.heap.NoLimit) (hg : s.gens = #[]) (ha : s.heap.get? a = some { cls := .type "list", data := .seq vs.toArray })
    (hi : IntsAre vs ns) (hl : ns.length ≤ sizeLine) (hr : Room k callerA)
    (F : ∀ base : Heap, K.In base → base.Ns mainGlobals mg → FnG P w K mg base CX0 k fa fd [x] sp)
    (hbind : ∀ (s : Shared) (u : Value), BindsTo s fd ⟨[u], []⟩ [(x, u)])
    (hsp : ∀ H : Hp, Only H → SqL K H a (ns.map V.int) → sp [.ref a] H (fun v _ => v = .bl true) fun _ _ _ => False) :
    codeAny (model P w) callerA (.call (.ref fa) ⟨[.ref a], []⟩)
      (fun r s' => r = .ok (.ret (.bool true)) ∧ OldK s.heap s'.heap ∧ s'.os = s.os ∧ AllBare s'.gens) s := by
  -- over an abstract heap that knows at most the script
  have core : ∀ H : Hp, Only H → SqL K H a (ns.map V.int) → HOk P w H s.heap → (∀ b, H b ≠ none → b = a) → (H a ≠ none → K.lookup a = none) →
      codeAny (model P w) callerA (.call (.ref fa) ⟨[.ref a], []⟩)
        (fun r s' => r = .ok (.ret (.bool true)) ∧ OldK s.heap s'.heap ∧ s'.os = s.os ∧ AllBare s'.gens) s := by
    intro H only hS ok hA hK
    have free : ∀ {b : Addr} {o : Obj} {es : Array DictEntry} {ep : Nat}, s.heap.get? b = some o → o.data = .dict es ep → H b = none := by
      intro b o es ep q d
      cases z : H b with
      | none => rfl
      | some u =>
        obtain rfl : b = a := hA b (by rw [z]; exact fun y => nomatch y)
        obtain rfl : _ = o := Option.some.inj (ha.symm.trans q)
        exact nomatch d
    have ns_ : ∀ {b : Addr} {m : Str → Option Value}, s.heap.Ns b m → (hidT s.heap H).Ns b m := by
      rintro b m ⟨o, es, ep, q, d, z⟩
      exact ⟨o, es, ep, hidT_get q (free q d), d, z⟩
    have KB : K.In (hidT s.heap H) := by
      intro b o q
      refine hidT_get (KX b o q) ?_
      cases z : H b with
      | none => rfl
      | some u =>
        obtain rfl : b = a := hA b (by rw [z]; exact fun y => nomatch y)
        rw [hK (by rw [z]; exact fun y => nomatch y)] at q
        cases q
    obtain ⟨mc, l1, l2⟩ := hlim
    have M : Mod K mg (hidT s.heap H) := ⟨KB, ns_ hns, ⟨mb, ns_ hb, hbb⟩, mc, ns_ l1, l2⟩
    have e0 : Env0 P w K mg (hidT s.heap H) callerA [] s H :=
      ⟨rfl, M, fun b o q => of_hidT q, Nat.le_of_eq (hidT_size _ _), trivial, (fun b z => by cases z), ok, .of_eq hg⟩
    refine codeAny_mono ((F _ KB (ns_ hns)).run callerA [] s H ⟨[.ref a], []⟩ [.ref a] [.ref a] _ _ hr rfl e0 (hbind s (.ref a))
      (.cons rfl .nil) (hsp H only hS)) ?_
    rintro (e | fl) s' h
    · exact (show False from h).elim
    · cases fl with
      | next => exact (show False from h).elim
      | brk => exact (show False from h).elim
      | cont => exact (show False from h).elim
      | ret u =>
        obtain ⟨v, H', os, bare, un, ok', rel, q⟩ := h
        obtain rfl : v = .bl true := q
        obtain rfl : u = Value.bool true := rel
        refine ⟨rfl, OldK.of_keep ?_, os, bare⟩
        intro b o q
        cases z : H b with
        | none => exact un.keep b o q z (fun y => by cases y) (fun y => by cases y)
        | some u =>
          rcases only b with y | ⟨ob, xs, y⟩
          · rw [z] at y; cases y
          · obtain ⟨q1, _⟩ := ok b _ y
            obtain ⟨q2, _⟩ := ok' b _ (un.frzs b ob _ y)
            rw [q] at q1
            cases q1
            exact q2
  have rv := vals_ints hi
  have many := hi.length
  cases hk : K.lookup a with
  | some o =>
    have q := KX a o hk
    rw [ha] at q
    cases q
    refine core (fun _ => none) (fun _ => .inl rfl) (.inr ⟨_, vs.toArray, _, hk, rfl, rfl, rfl, ?_, by simpa using rv⟩) (fun b u z => by cases z) (fun b z => absurd rfl z)
      fun z => absurd rfl z
    rw [List.size_toArray, many]
    exact hl
  | none =>
    have at_a : ∀ {b : Addr} {u : HO}, (if b = a then some (HO.frz { cls := .type "list", data := .seq vs.toArray } (.lst (ns.map V.int))) else none) = some u →
        b = a ∧ u = .frz { cls := .type "list", data := .seq vs.toArray } (.lst (ns.map V.int)) := by
      intro b u z
      by_cases e : b = a
      · rw [if_pos e] at z
        exact ⟨e, (Option.some.inj z).symm⟩
      · rw [if_neg e] at z
        cases z
    refine core (fun b => if b = a then some (.frz { cls := .type "list", data := .seq vs.toArray } (.lst (ns.map V.int))) else none) ?_
      (.inl (.inr ⟨{ cls := .type "list", data := .seq vs.toArray }, if_pos rfl⟩)) ?_ ?_ fun _ => hk
    · intro b
      by_cases e : b = a
      · exact .inr ⟨_, _, if_pos e⟩
      · exact .inl (if_neg e)
    · intro b u z
      obtain ⟨rfl, rfl⟩ := at_a z
      exact ⟨ha, by rw [List.length_map]; exact hl, vs, _, rv, ha⟩
    · intro b z
      by_cases e : b = a
      · exact e
      · exact absurd (if_neg e) z
theorem walkG {l : PySem.W.OpenLaw} {n k : Nat} {q : Program} {loose : List Str} {XP : (Str → Option Value) → Heap → Prop} {YP : World → Heap → Prop}
    {d : DefRec} {K : Params → PySem.W.Frag} {sp : World → Sp} {x : Str}
    (hn : l.most = some n) (hn2 : n ≤ sizeLine) (hdf : d.params.defaults = []) (hr : Room k callerA)
    (hY : ∀ (w : World) (h : Heap), YP w h → (K w.params).In h)
    (F : ∀ (w : World) (mg : Str → Option Value) (fa : Addr) (h : Heap), (K w.params).In h → h.Ns mainGlobals mg → mg d.name = some (.ref fa) →
      ∃ fd : FuncData, (∀ (s : Shared) (u : Value), BindsTo s fd ⟨[u], []⟩ [(x, u)]) ∧
        ∀ base : Heap, (K w.params).In base → base.Ns mainGlobals mg → FnG l.prog w (K w.params) mg base CX0 k fa fd [x] (sp w))
    (hsp : ∀ (w : World) (H : Hp) (a : Addr) (ns : List Int), ns.length ≤ n → (∀ z ∈ ns, Builtin.Int.intBits z ≤ 1048576) → Only H →
      SqL (K w.params) H a (ns.map V.int) → sp w [.ref a] H (fun v _ => v = .bl true) fun _ _ _ => False) :
    PySem.W.WalkO q loose XP YP l.row.toRowW d [] (fun f vs => PySem.call f vs) := by
  refine attach_callB hn hdf ?_
  intro w s₀ s₁ mg mb fa o pm cd doc a vs ns G Y ho hd hcd hmg hobj hints hlen hbits hg
  obtain ⟨fd, hb, hF⟩ := F w mg fa _ (hY w _ Y) G.T.g hmg
  refine law_callG (hY w _ Y) G.T.g G.T.b G.T.builtins G.T.nolimit hg hobj hints (Nat.le_trans hlen hn2) hr hF hb ?_
  intro H only hS
  exact hsp w H a ns hlen hbits only hS
end

/-! ## repr of data -/
section
variable {X : Cx}
def rRepr (K : PySem.W.Frag) : List V → Hp → VK → Prop := fun vs H Q => ∃ v d, vs = [v] ∧ Dp K H v d ∧ d.showable = true ∧ d.hasDict = false ∧
  d.depth ≤ 150 ∧ d.shown.length ≤ sizeLine ∧ Q (.str d.shown) H
theorem call_reprD {k : Nat} (gd : X.A.guards = some []) (hr : Room k X.A) : CallR X (.builtin "repr") (rRepr X.K) := by
  intro pins s σ H vs us Q I r h
  obtain ⟨v, d, rfl, hd, sh, nd, dp, sz, q⟩ := h
  obtain ⟨u, rfl, rv⟩ : ∃ u, us = [u] ∧ RelV v u := by
    cases r with
    | cons a b =>
      cases b
      exact ⟨_, rfl, a⟩
  obtain ⟨as, rd⟩ := Dp.reads I d v u hd rv
  have room := hr.un
  have fin : ∀ h' t tk, (∀ b o, s.heap.get? b = some o → h'.get? b = some o) → EP X pins σ Q (.str d.shown t) { s with heap := h', toks := tk } := fun h' t tk keep =>
    ⟨.str d.shown, H, I.kept keep, ⟨t, rfl⟩, q⟩
  have nodict : d.hasDict = true → sysModules ∉ as := fun z => by rw [nd] at z; cases z
  by_cases hu : ∃ a, u = .ref a
  · obtain ⟨a, rfl⟩ := hu
    exact repr_of_reads' rd sh nodict gd (by omega) (fun _ _ e => e) fin sz
  · cases hd with
    | non =>
      cases rv
      refine PySem.P.repr_of_none ?_
      simp only [PyData.shown] at fin
      exact fin s.heap _ _ fun _ _ e => e
    | bl b =>
      cases rv
      refine PySem.P.repr_of_bool ?_
      simp only [PyData.shown] at fin
      exact fin s.heap _ _ fun _ _ e => e
    | int i =>
      obtain ⟨t, rfl⟩ := rv
      refine PySem.P.repr_of_int (by simpa [PyData.showable] using sh) ?_
      simp only [PyData.shown] at fin
      exact fin s.heap _ _ fun _ _ e => e
    | str x =>
      obtain ⟨t, rfl⟩ := rv
      refine PySem.P.repr_of_str ?_ (by simpa only [PyData.shown] using sz)
      simp only [PyData.shown] at fin
      exact fin s.heap _ _ fun _ _ e => e
    | lst _ _ => exact absurd ⟨_, rv⟩ hu
    | tup _ _ => exact absurd ⟨_, rv⟩ hu
end
end Gd

/-! # t[::-1] of a tuple, xs.extend(t), products of great ints -/
namespace Gd
open PySem PySem.Spec PyProof.Rows L2 HT

section
variable {prog : Program} {w : World} {A : Around} {E : Value → Shared → Prop} {s : Shared}
theorem adjust_back (n : Nat) : Builtin.Slice.sliceAdjust none none (-1) (n : Int) = ((n : Int) - 1, -1) := rfl
theorem places_back (n : Nat) : Builtin.Slice.slicePlaces ((n : Int) - 1) (-1) (-1) = n := by
  unfold Builtin.Slice.slicePlaces
  rw [if_neg (by decide)]
  by_cases h : 0 < n
  · rw [if_pos (show (n : Int) - 1 > -1 by omega)]
    show (((n : Int) - 1 - (-1) - 1) / 1 + 1).toNat = n
    rw [Int.ediv_one]
    omega
  · rw [if_neg (show ¬ (n : Int) - 1 > -1 by omega)]
    omega
theorem pick_back (xs : Array Value) : ((List.range xs.size).filterMap fun (k : Nat) => xs[((xs.size : Int) - 1 + (k : Int) * (-1)).toNat]?).toArray = xs.toList.reverse.toArray := by
  congr 1
  have e : ∀ l : List Nat, (∀ k ∈ l, k < xs.size) → (l.filterMap fun (k : Nat) => xs[((xs.size : Int) - 1 + (k : Int) * (-1)).toNat]?) = l.filterMap fun k => xs.toList.reverse[k]? := by
    intro l hl
    induction l with
    | nil => rfl
    | cons k r ih =>
      have hk := hl k List.mem_cons_self
      have e1 : ((xs.size : Int) - 1 + (k : Int) * (-1)).toNat = xs.size - 1 - k := by omega
      have e2 : xs[((xs.size : Int) - 1 + (k : Int) * (-1)).toNat]? = xs.toList.reverse[k]? := by
        rw [e1, List.getElem?_reverse (by simpa using hk)]
        simp
      rw [List.filterMap_cons, List.filterMap_cons, e2, ih fun j hj => hl j (List.mem_cons_of_mem _ hj)]
  rw [e _ fun k hk => List.mem_range.mp hk]
  have all : ∀ ys : List Value, ((List.range ys.length).filterMap fun k => ys[k]?) = ys := by
    intro ys
    induction ys with
    | nil => rfl
    | cons y r ih =>
      rw [List.length_cons, List.range_succ_eq_map, List.filterMap_cons]
      show y :: List.filterMap _ (List.map Nat.succ (List.range r.length)) = y :: r
      rw [List.filterMap_map]
      exact congrArg (y :: ·) ih
  have q := all xs.toList.reverse
  rw [List.length_reverse, Array.length_toList] at q
  exact q
theorem applied_back {sl : Addr} {vs : Value} {n : Nat} {Q : Int × Int × Nat → Shared → Prop} (hs : s.heap.IsSliceOf sl .none .none vs) (ps : IsPart vs (some (-1)))
    (h : Q ((n : Int) - 1, -1, n) s) : wpAny (model prog w) A (Builtin.Slice.sliceApplied (.ref sl) (pure (n : Int))) Q E s := by
  obtain ⟨os, hos, hcs, hds⟩ := id hs
  unfold Builtin.Slice.sliceApplied Builtin.Slice.sliceFields
  refine wpAny_bind (wpAny_bind (wpAny_field hos hds (x := .none) rfl ?_))
  refine wpAny_bind (wpAny_field hos hds (x := .none) rfl ?_)
  refine wpAny_bind (wpAny_field hos hds (x := vs) rfl ?_)
  refine wpAny_pure ?_
  refine wpAny_bind (slicePart_ ps ?_)
  show wpAny _ _ (if ((-1 : Int) == 0) = true then _ else _) _ _ s
  rw [if_neg (by decide)]
  refine wpAny_bind (slicePart_none (wpAny_bind (slicePart_none (wpAny_bind (wpAny_pure ?_)))))
  show wpAny _ _ (pure ((n : Int) - 1, (-1 : Int), Builtin.Slice.slicePlaces ((n : Int) - 1) (-1) (-1))) _ _ s
  rw [places_back]
  exact wpAny_pure h
theorem tuple_back {t sl : Addr} {items : Array Value} {vs : Value} {Q : Value → Shared → Prop} (ht : IsTup s.heap t items) (hs : s.heap.IsSliceOf sl .none .none vs)
    (ps : IsPart vs (some (-1))) (hsz : items.size ≤ sizeLine)
    (h : Q (.ref s.heap.objs.size) { s with heap := s.heap.push { cls := .type "tuple", data := .seq items.toList.reverse.toArray } }) :
    wpAny (model prog w) A (getItem (.ref t) (.ref sl)) Q E s := by
  have fit : sizeOk (.seq items.toList.reverse.toArray) := by
    show items.toList.reverse.toArray.size ≤ sizeLine
    simpa using hsz
  obtain ⟨os, hos, hcs, hds⟩ := id hs
  have hTs : s.TypeIs (.ref sl) "slice" := ⟨os, hos, hcs⟩
  unfold getItem
  try with_reducible refine wpAny_holding ?_
  first | refine wpAny_bind (wpAny_pure ?_) | skip
  refine wpAny_bind (wpAny_sequenceKey ht.typeIs (by decide) ?_)
  refine wpAny_bind (wpAny_callSpecial?_slot (name := Str.ofString "__getitem__") ht.typeIs slot_tuple_getitem
    (wpAny_call_entry slot_tuple_getitem ht.typeIs entry_tuple_getitem ?_ (args_tuple_getitem _ _)))
  show wpAny _ _ (Builtin.Tuple.tupleItemsOf (.ref t) >>= _) _ _ s
  refine wpAny_bind (tupleItemsOf_ ht (wpAny_bind (wpAny_typeOf hTs ?_)))
  rw [if_pos (by decide)]
  refine wpAny_bind (applied_back hs ps ?_)
  have no : ¬ ((((items.size : Int) - 1) == 0 && (-1 : Int) == 1 && items.size == items.size) = true) := by
    rw [show ((-1 : Int) == 1) = false from rfl, Bool.and_false, Bool.false_and]
    exact Bool.false_ne_true
  show wpAny _ _ (if (((items.size : Int) - 1) == 0 && (-1 : Int) == 1 && items.size == items.size) = true then _ else _) _ _ s
  rw [if_neg no, pick_back]
  first
    | exact wpAny_bind (m := Builtin.Tuple.tupleExact _) (wpAny_newObj_type (wpAny_pure ⟨_, rfl, wpAny_pure h⟩) fit)
    | exact wpAny_bind (wpAny_bind (m := Builtin.Tuple.tupleExact _) (wpAny_newObj_type (wpAny_pure (wpAny_pure ⟨_, rfl, wpAny_pure h⟩)) fit))
    | exact wpAny_bind (wpAny_bind (m := Builtin.Tuple.tupleExact _) (wpAny_newObj_type (wpAny_pure ⟨_, rfl, wpAny_pure h⟩) fit))
end
section
variable {X : Cx}
def tRevT (K : PySem.W.Frag) (te : TE) : TE := fun σ H Q => te σ H fun x H1 => ∃ a xs, x = .ref a ∧ SqT K H1 a xs ∧ ∀ p, H1 p = none → Q (.ref p) (upd H1 p (.tup xs.reverse))
theorem pe_revT {e : Expr} {te : TE} {k : Nat} {p1 p2 p3 pos : Pos} (he : PE X e te) :
    PE X (.Subscript e (.Slice none none (some (.UnaryOp .USub (.Constant (.int 1) k p1) p2)) p3) pos) (tRevT X.K te) := by
  constructor
  intro pins s σ H Q I h
  refine Subscript_ (thn (he.run pins s σ H _ I h) ?_)
  rintro v s1 ⟨x, H1, I1, r1, a, xs, rfl, hx, q⟩
  cases r1
  have step : PO X (some (.UnaryOp .USub (.Constant (.int 1) k p1) p2)) (tPart (tUn (rU fun i => .int (-i)) (tC (.int 1)))) := po_some (pe_un un_neg pe_int)
  refine wpAny_Slice (wpAny_of_eq (a := .none) (by first | exact evalPart_none .. | rfl) ?_)
  refine wpAny_of_eq (a := .none) (by first | exact evalPart_none .. | rfl) ?_
  refine thn (step.run pins s1 σ H1 (fun o H4 => o = some (-1) ∧ H4 = H1) I1 ⟨1, rfl, -1, rfl, rfl, rfl⟩) ?_
  rintro vs s4 ⟨o, H4, I4, ps, rfl, rfl⟩
  have I5 : Inv X pins σ H4 { s4 with heap := s4.heap.push { cls := .type "slice", data := .fields #[.none, .none, vs] } } :=
    I4.kept (t' := s4.toks) fun b ob q => Heap.get?_push_of_some _ q
  obtain ⟨its, r, ht, hz⟩ := I5.tuple hx
  have many := r.length
  show wpAny (model X.prog X.w) X.A (subscriptTail e (.Slice none none (some (.UnaryOp .USub (.Constant (.int 1) k p1) p2)) p3) (.ref a) (.ref s4.heap.objs.size))
    (EP X pins σ Q) X.xe { s4 with heap := s4.heap.push { cls := .type "slice", data := .fields #[.none, .none, vs] } }
  refine tail_any (ops := [.ref a, .ref s4.heap.objs.size]) ht.typeIs slot_tuple_getitem.lookup ?_ (by with_unfolding_all rfl)
  refine tuple_back ht (Heap.IsSliceOf.new _ _ _ vs) ps (by rw [List.size_toArray]; omega) ?_
  refine ⟨.ref _, _, I5.laid (t' := s4.toks) (o := .tup xs.reverse) (fun b ob q => Heap.get?_push_of_some _ q) (Nat.le_refl _) ?_, rfl, q _ (I5.hok.fresh (Nat.le_refl _))⟩
  exact ⟨by rw [List.length_reverse]; exact hz, its.reverse, r.reverse, ⟨_, Heap.get?_push_size _ rfl, rfl, _, rfl⟩⟩

set_option maxRecDepth 8000 in
theorem extend_tup (l : Addr) (items : Array Value) (n : Nat) (b : Addr) (items2 : Array Value) (n2 : Nat) (dd : Option Addr) (sl : Array (Option Value))
    (short : ¬(!items.isEmpty && Builtin.List.listTooLong (items.size + items2.size)) = true) (fit : items.size ≤ sizeLine)
    (fit2 : items.size + items2.size ≤ sizeLine + 1) :
    Meets (Builtin.«list.extend» ⟨[.ref l, .ref b], []⟩) (fun _ R s => s.heap.get? l = some { cls := .type "list", dict := none, data := .seq items n, slots := #[] } ∧
      s.heap.get? b = some { cls := .type "tuple", dict := dd, data := .seq items2 n2, slots := sl } ∧
      R (.ok (.ret Value.none)) { s with heap := s.heap.update l (Obj.mapSeq fun x => x ++ items2), toks := s.toks }) := by
  refine .of_wp fun prog w A R s h => ?_
  obtain ⟨hp, g, d, tk, os⟩ := s
  obtain ⟨hl, hb, h⟩ := h
  have f2 := AutoSeq1.sub_tuple_tuple
  have f3 := AutoSeq1.sub_list_list
  have f4 := AutoSeq1.sub_tuple_list
  have f5 := AutoSeq1.sub_list_tuple
  have whole : (items ++ items2).size ≤ sizeLine + 1 := by rw [Array.size_append]; exact fit2
  wp_walk using (wpAny_updateSeq hl rfl (hz := fit) (_hz' := whole)), AutoSeq1.wpAny_loadPart' hl, AutoSeq1.wpAny_loadPart' hb
  exact ⟨_, rfl, h⟩
/-- xs.extend(t), t a tuple -/
def rExtT (K : PySem.W.Frag) : V → List V → Hp → VK → Prop := fun x vs H Q => ∃ l b xs zs, x = .ref l ∧ vs = [.ref b] ∧ H l = some (.lst xs) ∧ H b = some (.tup zs) ∧
  xs.length + zs.length ≤ sizeLine ∧ Q .non (upd H l (.lst (xs ++ zs)))
theorem mt_extT : MtM X "list.extend" (rExtT X.K) := by
  intro pins s σ H x vs v us Q I rx rv h
  obtain ⟨l, b, xs, zs, rfl, rfl, hH, hB, hz, q⟩ := h
  cases rx
  obtain ⟨u, rfl, ru⟩ := rv.one
  cases ru
  obtain ⟨z, its, n, r, hl, e⟩ := I.lstM hH
  obtain ⟨z2, its2, r2, ⟨ob, ho, hc, n2, hd⟩⟩ := I.hok b _ hB
  have r2l := r2.length
  have fit : its.toArray.size + its2.toArray.size ≤ sizeLine := by
    rw [List.size_toArray, List.size_toArray]
    have := r.length
    omega
  have short : ¬ (!its.toArray.isEmpty && Builtin.List.listTooLong (its.toArray.size + its2.toArray.size)) = true := by
    rw [notLongL fit, Bool.and_false]
    exact Bool.false_ne_true
  obtain ⟨cls, dd, data, sl⟩ := ob
  simp only at hc hd
  subst hc hd
  refine call_meets F.slot_list_extend ⟨_, e, rfl⟩ F.entry_list_extend (F.args_list_extend_2 _ _)
    (extend_tup l its.toArray n b its2.toArray n2 dd sl short (by rw [List.size_toArray]; omega) (by omega)) ⟨e, ho, ?_⟩
  refine ⟨.non, _, I.lset (its' := its ++ its2) hH e (by simp) (r.append r2) ?_, rfl, q⟩
  rw [List.length_append]
  omega
/-- products of two factors of together less than a hundred million bits -/
def CMulB (i j : Int) : Prop := i.natAbs.log2 + j.natAbs.log2 < 100000000
theorem bits_le (x : Int) : Builtin.Int.intBits x ≤ x.natAbs.log2 + 1 := by
  unfold Builtin.Int.intBits
  split <;> omega
theorem CMulB.ok {i j : Int} (h : CMulB i j) : IntMulOk i j := by
  have h1 := bits_le i
  have h2 := bits_le j
  unfold CMulB at h
  intro z
  have z2 := (Bool.and_eq_true _ _ ▸ z : _ ∧ _).2
  unfold Builtin.Int.intTooBig at z2
  have z3 := of_decide_eq_true z2
  rw [show bitsLine = 134217728 by decide] at z3
  omega
theorem op_mulB : OpR X (binaryOp .Mult) (rI CMulB fun i j => .int (i * j)) := opI fun _ _ _ _ _ _ _ hc q => mul_int q hc.ok
end
end Gd

/-! # heaps but for one object; the state from which a law draws -/
namespace Gd
open PySem PySem.Spec PyProof.Rows L2

/-- all that was tracked is as it was, but for what stands at m -/
def Kp (m : Addr) (H H' : Hp) : Prop := ∀ b o, b ≠ m → H b = some o → H' b = some o
section
variable {H H1 H2 : Hp} {m p q : Addr} {o u : HO} {xs : List V}
theorem _root_.L2.Same.seqT {K : PySem.W.Frag} {H H' : Hp} {a : Addr} {xs : List V} (e : Same H H') (h : SqT K H a xs) : SqT K H' a xs := by
  rcases h with (h | ⟨o, h⟩) | h
  · exact .inl (.inl (e _ _ h))
  · exact .inl (.inr ⟨o, e _ _ h⟩)
  · exact .inr h
theorem Kp.refl : Kp m H H := fun _ _ _ h => h
theorem Kp.trans (a : Kp m H H1) (b : Kp m H1 H2) : Kp m H H2 := fun c o h z => b c o h (a c o h z)
theorem Kp.of (s : Same H H1) : Kp m H H1 := fun c o _ z => s c o z
theorem _root_.L2.Same.new (h : H p = none) (o : HO) : Same H (upd H p o) := fun b u e => by
  rw [upd_ne (ne_of_none e h)]
  exact e
theorem Kp.new (h : H p = none) (o : HO) : Kp m H (upd H p o) := Kp.of (Same.new h o)
theorem Kp.at (o : HO) : Kp m H (upd H m o) := fun b u h e => by
  rw [upd_ne h]
  exact e
theorem Kp.put (k : Kp m H H1) (o : HO) : Kp m H (upd H1 m o) := k.trans (Kp.at o)
theorem Kp.get (k : Kp m H H1) (h : H p = some o) (hm : H m = some u) (d : o ≠ u) : H1 p = some o := k p o (ne_of h hm d) h
/-- a new object changed after it was made -/
theorem _root_.L2.Same.put (s : Same H H1) (h : H p = none) (o : HO) : Same H (upd H1 p o) := fun b u e => by
  rw [upd_ne (ne_of_none e h)]
  exact s b u e
theorem Kp.put' (s : Kp m H H1) (h : H p = none) (o : HO) : Kp m H (upd H1 p o) := fun b u hb e => by
  rw [upd_ne (ne_of_none e h)]
  exact s b u hb e
theorem Kp.free (k : Kp m H H1) (h : H1 p = none) (hm : p ≠ m) : H p = none := by
  cases z : H p with
  | none => rfl
  | some o =>
    rw [k p o hm z] at h
    cases h
theorem ne_new (h : H p = some o) (n : H q = none) : p ≠ q := ne_of_none h n
end

/-! ## the state -/
def mk (l s : Int) (c : Addr) (p : Int) : List (Key × V) :=
  [(.inr "left", .int l), (.inr "seed", .int s), (.inr "cells", .ref c), (.inr "spot", .int p)]
section
variable {H : Hp} {m c : Addr} {l s p l' p' : Int}
theorem val_left : valV (mk l s c p) (.inr "left") = some (.int l) := rfl
theorem val_seed : valV (mk l s c p) (.inr "seed") = some (.int s) := rfl
theorem val_cells : valV (mk l s c p) (.inr "cells") = some (.ref c) := rfl
theorem val_spot : valV (mk l s c p) (.inr "spot") = some (.int p) := rfl
theorem put_left : putK (mk l s c p) (.inr "left") (.int l') = mk l' s c p := rfl
theorem put_spot : putK (mk l s c p) (.inr "spot") (.int p') = mk l s c p' := rfl
theorem merge_mk : mergeK [] (mk l s c p) = mk l s c p := rfl
end
end Gd

/-! # readings, step by step -/
namespace Gd
open PySem PySem.Spec PyProof.Rows L2
section
variable {K : PySem.W.Frag} {σ : L2.St} {H : Hp} {Q : VK} {QB : Bool → Hp → Prop} {QA : List V → Hp → Prop} {QO : Option Int → Hp → Prop} {QS : L2.St → Hp → Prop}
  {D : Ends} {te ta tb tc td ty tv tl th : TE} {tt uu : TT} {t u : TS} {ts tr : TA} {g : TG} {v x y : V} {a p : Addr} {xs ys : List V} {i j : Int} {n k : Nat} {b : Bool} {c : Prop} [Decidable c]
theorem rd_seq (h : t { D with nx := u D } σ H) : tSeq t u D σ H := h
theorem rd_next (h : D.nx σ H) : tNext D σ H := h
theorem rd_brk (h : D.bk σ H) : tBreak D σ H := h
theorem rd_cnt (h : D.ct σ H) : tCont D σ H := h
theorem rd_asg (h : te σ H fun v H1 => D.nx (σ.set n (some v)) H1) : tAsg te (gName n) D σ H := h
theorem rd_drop (h : te σ H fun _ H1 => D.nx σ H1) : tDrop te D σ H := h
theorem rd_ret (h : te σ H fun v H1 => D.rt v H1) : tRet te D σ H := h
theorem rd_retN (h : D.rt .non H) : tRetN D σ H := h
theorem rd_ifs (h : tt σ H fun b H1 => if b = true then t D σ H1 else u D σ H1) : tIfS tt t u D σ H := h
theorem rd_par (h : ts σ H fun vs H1 => ∃ v w, vs = [v, w] ∧ D.nx ((σ.set n (some v)).set k (some w)) H1) : tPar n k ts D σ H := h
theorem rd_pair {P : V → V → Prop} (h : P x y) : ∃ v w, [x, y] = [v, w] ∧ P v w := ⟨x, y, rfl, h⟩
theorem rd_var (e : σ[n]? = some (some v)) (h : Q v H) : tVar n σ H Q := ⟨v, e, h⟩
theorem rd_c (h : Q v H) : tC v σ H Q := h
theorem rd_op {r : R2} (h : ta σ H fun x H1 => tb σ H1 fun y H2 => r x y H2 Q) : tOp r ta tb σ H Q := h
theorem rd_un {r : V → Hp → VK → Prop} (h : ta σ H fun x H1 => r x H1 Q) : tUn r ta σ H Q := h
theorem rd_cb {r : List V → Hp → VK → Prop} (h : ts σ H fun vs H1 => r vs H1 Q) : tCB r ts σ H Q := h
theorem rd_call {sp : Sp} {dvs : List V} {E : XK} (h : ts σ H fun vs H1 => sp (vs ++ dvs) H1 Q E) : tCall sp dvs E ts σ H Q := h
theorem rd_nil (h : QA [] H) : tNil σ H QA := h
theorem rd_cons (h : ta σ H fun x H1 => tr σ H1 fun xs H2 => QA (x :: xs) H2) : tCons ta tr σ H QA := h
theorem rd_tup (h : ts σ H fun xs H1 => xs.length ≤ sizeLine ∧ ∀ p, H1 p = none → Q (.ref p) (upd H1 p (.tup xs))) : tTup ts σ H Q := h
theorem rd_lst (h : ts σ H fun xs H1 => xs.length ≤ sizeLine ∧ ∀ p, H1 p = none → Q (.ref p) (upd H1 p (.lst xs))) : tLst ts σ H Q := h
theorem rd_if (h : tt σ H fun c H1 => if c = true then ta σ H1 Q else tb σ H1 Q) : tIf tt ta tb σ H Q := h
theorem rd_test (h : te σ H fun x H1 => ∃ k, x = .bl k ∧ QB k H1) : tTest te σ H QB := h
theorem rd_tb (h : te σ H fun x H1 => ∃ k, x = .bl k ∧ QB k H1) : tB te σ H QB := h
theorem rd_bl {P : Bool → Prop} (h : P b) : ∃ k, V.bl b = .bl k ∧ P k := ⟨b, rfl, h⟩
theorem rd_and (h : tt σ H fun c H1 => if c = true then uu σ H1 QB else QB false H1) : tAnd tt uu σ H QB := h
theorem rd_or (h : tt σ H fun c H1 => if c = true then QB true H1 else uu σ H1 QB) : tOr tt uu σ H QB := h
theorem rd_not (h : tt σ H fun c H1 => QB (!c) H1) : tNot tt σ H QB := h
theorem rd_andV (h : ta σ H fun x H1 => ∃ c, x = .bl c ∧ if c = true then tb σ H1 Q else Q (.bl false) H1) : tAndV ta tb σ H Q := h
theorem rd_orV (h : ta σ H fun x H1 => ∃ c, x = .bl c ∧ if c = true then Q (.bl true) H1 else tb σ H1 Q) : tOrV ta tb σ H Q := h
theorem rd_notV (h : ta σ H fun x H1 => ∃ c, x = .bl c ∧ Q (.bl (!c)) H1) : tNotV ta σ H Q := h
theorem rd_sl {r : V → Option Int → Option Int → Hp → VK → Prop} {tl th : TO} (h : te σ H fun x H1 => tl σ H1 fun l H2 => th σ H2 fun u H3 => r x l u H3 Q) : tSl r te tl th σ H Q := h
theorem rd_nopart (h : QO none H) : tNoPart σ H QO := h
theorem rd_part (h : te σ H fun x H1 => ∃ i, x = .int i ∧ QO (some i) H1) : tPart te σ H QO := h
theorem rd_int {P : Int → Prop} (h : P i) : ∃ k, V.int i = .int k ∧ P k := ⟨i, rfl, h⟩
theorem rd_dget (h : td σ H fun x H1 => ty σ H1 fun y H2 => ∃ a v, x = .ref a ∧ DGet H2 a y (some v) ∧ Q v H2) : tDGet td ty σ H Q := h
theorem rd_dgetK {P : V → Prop} {kvs : List (Key × V)} {z : Str} (hm : H a = some (.dK kvs)) (hv : valV kvs (.inr z) = some v) (h : P v) :
    ∃ b w, V.ref a = .ref b ∧ DGet H b (.str z) (some w) ∧ P w := ⟨a, v, rfl, .inl ⟨kvs, .inr z, .inl hm, rfl, hv.symm⟩, h⟩
theorem rd_dput (h : tv σ H fun v H1 => td σ H1 fun x H2 => ty σ H2 fun y H3 => ∃ a H4, x = .ref a ∧ DPut H3 a y v H4 ∧ D.nx σ H4) : sDPut td ty tv D σ H := h
theorem rd_dputK {P : Hp → Prop} {kvs kvs' : List (Key × V)} {z : Str} (hm : H a = some (.dK kvs)) (hv : putK kvs (.inr z) v = kvs') (hl : kvs.length < 1000000) (h : P (upd H a (.dK kvs'))) :
    ∃ b H4, V.ref a = .ref b ∧ DPut H b (.str z) v H4 ∧ P H4 := ⟨a, _, rfl, .inl ⟨kvs, .inr z, hm, rfl, Nat.lt_of_lt_of_le hl (by decide), rfl⟩, by rw [hv]; exact h⟩
theorem rd_i0 {f : Int → Int → V} (h : Q (f i j) H) : rI0 f (.int i) (.int j) H Q := ⟨i, j, rfl, rfl, h⟩
theorem rd_i {C : Int → Int → Prop} {f : Int → Int → V} (hc : C i j) (h : Q (f i j) H) : rI C f (.int i) (.int j) H Q := ⟨i, j, rfl, rfl, hc, h⟩
theorem rd_u {f : Int → V} (h : Q (f i) H) : rU f (.int i) H Q := ⟨i, rfl, h⟩
theorem rd_eq (hs : scal x y = true) (h : Q (.bl (decide (x = y))) H) : rEq x y H Q := ⟨hs, h⟩
theorem rd_ne (hs : scal x y = true) (h : Q (.bl (!decide (x = y))) H) : rNe x y H Q := ⟨hs, h⟩
theorem rd_intI {A : Int → Prop} {B : Prop} (h : A i) : (∃ k, [V.int i] = [V.int k] ∧ A k) ∨ B := .inl ⟨i, rfl, h⟩
theorem rd_ixL (hs : SqL K H a xs) (hv : atI xs i = some v) (h : Q v H) : rIxL K (.ref a) (.int i) H Q := ⟨a, xs, i, v, rfl, rfl, hs, hv, h⟩
theorem rd_ixT (hs : SqT K H a xs) (hv : atI xs i = some v) (h : Q v H) : rIxT K (.ref a) (.int i) H Q := ⟨a, xs, i, v, rfl, rfl, hs, hv, h⟩
theorem rd_slL {lo hi : Option Int} (hs : SqL K H a xs) (h : ∀ p, H p = none → Q (.ref p) (upd H p (.lst (cutV xs lo hi)))) : rSlL K (.ref a) lo hi H Q := ⟨a, xs, rfl, hs, h⟩
theorem rd_cat (hl : H a = some (.lst xs)) (hb : H p = some (.lst ys)) (hz : xs.length + ys.length ≤ 1000000) (h : ∀ q, H q = none → Q (.ref q) (upd H q (.lst (xs ++ ys)))) :
    rCat (.ref a) (.ref p) H Q := ⟨a, p, xs, ys, rfl, rfl, hl, hb, Nat.le_trans hz (by decide), h⟩
theorem rd_len {A : List V → Prop} (hs : SqL K H a xs ∨ SqT K H a xs) (h : A xs) : ∃ p ys, [V.ref a] = [V.ref p] ∧ (SqL K H p ys ∨ SqT K H p ys) ∧ A ys := ⟨a, xs, rfl, hs, h⟩
theorem rd_true (h : c) {A B : Prop} (q : A) : if decide c = true then A else B := by rw [decide_eq_true h]; exact iteT q
theorem rd_false (h : ¬ c) {A B : Prop} (q : B) : if decide c = true then A else B := by rw [decide_eq_false h]; exact iteF q
/-- a test of which nothing is known: two ways -/
theorem rd_two {A B : Prop} (h1 : c → A) (h2 : ¬ c → B) : if decide c = true then A else B := by
  by_cases h : c
  · exact rd_true h (h1 h)
  · exact rd_false h (h2 h)
theorem sqL (h : H a = some (.lst xs)) : SqL K H a xs := .inl (.inl h)
theorem sqT (h : H a = some (.tup xs)) : SqT K H a xs := .inl (.inl h)
end
theorem atI_in {α : Type} {xs : List α} {i : Int} (h0 : 0 ≤ i) (h1 : i < (xs.length : Int)) : ∃ v, atI xs i = some v ∧ xs[i.toNat]? = some v ∧ v ∈ xs := by
  obtain ⟨j, rfl⟩ : ∃ j : Nat, i = (j : Int) := ⟨i.toNat, by omega⟩
  have hj : j < xs.length := by omega
  refine ⟨xs[j], atI_nat (List.getElem?_eq_getElem hj), ?_, List.getElem_mem hj⟩
  show xs[j]? = some xs[j]
  exact List.getElem?_eq_getElem hj
theorem atI_mod {α : Type} {xs : List α} (p : Int) (h : xs ≠ []) : ∃ v, atI xs (p % (xs.length : Int)) = some v ∧ v ∈ xs := by
  have h0 : 0 < xs.length := List.length_pos_iff.mpr h
  obtain ⟨v, e, _, m⟩ := atI_in (xs := xs) (Int.emod_nonneg p (b := (xs.length : Int)) (by omega)) (Int.emod_lt_of_pos p (by omega))
  exact ⟨v, e, m⟩
section
variable {X : Cx} (K : PySem.W.Frag)
/-- the rules that speak of the written part, with its name given -/
theorem ix_tupK (h : X.K = K := by rfl) : IxR X (rIxT K) := h ▸ ix_tup
theorem ix_listK (h : X.K = K := by rfl) : IxR X (rIxL K) := h ▸ ix_list
theorem in_seqK (h : X.K = K := by rfl) : OpR X (compareOp .In) (rIn K false) := h ▸ op_in_seq
theorem notIn_seqK (h : X.K = K := by rfl) : OpR X (compareOp .NotIn) (rIn K true) := h ▸ op_notIn_seq
theorem len_seqK (h : X.K = K := by rfl) : CallR X (.builtin "len") (fun xs H Q => ∃ p ys, xs = [.ref p] ∧ (SqL K H p ys ∨ SqT K H p ys) ∧ Q (.int ys.length) H) := h ▸ call_len_seq
theorem sl_listK (h : X.K = K := by rfl) : SlR X (rSlL K) := h ▸ sl_list
theorem sl_tupK (h : X.K = K := by rfl) : SlR X (rSlT K) := h ▸ sl_tup
theorem tuple_ofK (h : X.K = K := by rfl) : CallR X (.type "tuple") (fun xs H Q => ∃ p ys, xs = [.ref p] ∧ ((SqL K H p ys ∧ ∀ l, H l = none → Q (.ref l) (upd H l (.tup ys))) ∨ (SqT K H p ys ∧ Q (.ref p) H))) := h ▸ call_tuple_of
theorem list_ofK (h : X.K = K := by rfl) : CallR X (.type "list") (fun xs H Q => ∃ p ys, xs = [.ref p] ∧ (SqL K H p ys ∨ SqT K H p ys) ∧ ∀ l, H l = none → Q (.ref l) (upd H l (.lst ys))) := h ▸ call_list_of
theorem sumK (hc : X.calm = true := by rfl) (h : X.K = K := by rfl) : CallR X (.builtin "sum") (rSum K) := h ▸ cr_sum hc
theorem allK (hc : X.calm = true := by rfl) (h : X.K = K := by rfl) : CallR X (.builtin "all") (rAll K) := h ▸ cr_all hc
theorem eqDK (hu : X.A.units + 64 < cLine) (h : X.K = K := by rfl) : OpR X (compareOp .Eq) (rEqD K) := h ▸ op_eqD hu
theorem neDK (hu : X.A.units + 64 < cLine) (h : X.K = K := by rfl) : OpR X (compareOp .NotEq) (rNeD K) := h ▸ op_neD hu
theorem reprK {k : Nat} (gd : X.A.guards = some []) (hr : Room k X.A) (h : X.K = K := by rfl) : CallR X (.builtin "repr") (rRepr K) := h ▸ call_reprD gd hr
end
end Gd

/-! # loops and comprehensions -/
namespace Gd
open PySem PySem.Spec PyProof.Rows L2 RZ
section
variable {K : PySem.W.Frag} {σ : L2.St} {H H1 : Hp} {Q : VK} {D : Ends} {te tl : TE} {tt : TT} {tb : TS} {ts : TA} {wi : TI} {R : It → Hp → Prop} {g : TG} {vs : List Nat} {a b : Addr} {xs ys : List V} {j i1 i2 n : Nat}
theorem rd_for (h : wi σ H fun J H1 => ∃ W : Nat → Nat → L2.St → Hp → Prop, (∃ m, W 0 m σ H1) ∧ ∀ i m σ H, W i m σ H →
    (J.stop i H ∧ D.nx σ H) ∨ (J.go i H ∧ ∃ N : L2.St → Hp → Prop, (∀ σ' H', N σ' H' → ∃ m', m' < m ∧ W (i + 1) m' σ' H') ∧
      ∀ x H', J.yld i H x H' → g x σ H' fun σ2 H2 => tb { D with nx := N, ct := N, bk := D.nx } σ2 H2)) : tFor wi g tb D σ H := h
theorem rd_lc (h : wi σ H fun J H1 => ∀ D, H1 D = none → ∃ W : Nat → Nat → Hp → Prop, (∃ m, W 0 m (upd H1 D (.lst []))) ∧ ∀ i m H, W i m H →
    (J.stop i H ∧ Q (.ref D) H) ∨ (J.go i H ∧ ∃ Nx : Hp → Prop, (∀ H', Nx H' → ∃ m', m' < m ∧ W (i + 1) m' H') ∧
      ∀ x H', J.yld i H x H' → g x (wipe σ vs) H' fun σ2 H2 => wipe σ2 vs = wipe σ vs ∧ tt σ2 H2 fun b H3 =>
        if b = true then te σ2 H3 fun y H4 => ∃ acc, H4 D = some (.lst acc) ∧ acc.length < sizeLine ∧ Nx (upd H4 D (.lst (acc ++ [y]))) else Nx H3)) :
    tLc wi g tt te vs σ H Q := h
theorem rd_iL (h : tl σ H fun x H1 => ∃ a, x = .ref a ∧ (∃ xs, SqL K H1 a xs) ∧ R (Itl K a) H1) : iList K tl σ H R := h
theorem rd_iT (h : tl σ H fun x H1 => ∃ a, x = .ref a ∧ (∃ xs, SqT K H1 a xs) ∧ R (Itt K a) H1) : iTup K tl σ H R := h
theorem rd_iR1 (h : ts σ H fun vs H1 => ∃ j : Int, vs = [.int j] ∧ -(2 ^ 62) ≤ j ∧ j < 2 ^ 62 ∧ R (Itr 0 j.toNat) H1) : iRng1 ts σ H R := h
theorem rd_iZ (h : ts σ H fun vs H1 => ∃ a b xs ys, vs = [.ref a, .ref b] ∧ ((SqL K H1 a xs ∧ SqL K H1 b ys ∧ R (Itz K a b) H1) ∨ (SqT K H1 a xs ∧ SqT K H1 b ys ∧ R (ItzT K a b) H1))) : iZipA K ts σ H R := h
theorem rd_atL {P : Addr → Prop} (h : SqL K H a xs) (q : P a) : ∃ b, V.ref a = .ref b ∧ (∃ xs, SqL K H b xs) ∧ P b := ⟨a, rfl, ⟨xs, h⟩, q⟩
theorem rd_atT {P : Addr → Prop} (h : SqT K H a xs) (q : P a) : ∃ b, V.ref a = .ref b ∧ (∃ xs, SqT K H b xs) ∧ P b := ⟨a, rfl, ⟨xs, h⟩, q⟩
theorem rd_atR {P : Int → Prop} {i : Int} (h0 : 0 ≤ i) (h1 : i ≤ 1000000) (q : P i) : ∃ j : Int, [V.int i] = [.int j] ∧ -(2 ^ 62) ≤ j ∧ j < 2 ^ 62 ∧ P j := ⟨i, rfl, by omega, by omega, q⟩
theorem rd_atZ {P P' : Addr → Addr → Prop} (h : SqT K H a xs) (h' : SqT K H b ys) (q : P' a b) :
    ∃ c d zs ws, [V.ref a, V.ref b] = [.ref c, .ref d] ∧ ((SqL K H c zs ∧ SqL K H d ws ∧ P c d) ∨ (SqT K H c zs ∧ SqT K H d ws ∧ P' c d)) := ⟨a, b, xs, ys, rfl, .inr ⟨h, h', q⟩⟩
theorem rd_yes {QB : Bool → Hp → Prop} (h : QB true H) : tYes σ H QB := h
theorem rd_gname {v : V} {QS : L2.St → Hp → Prop} (h : QS (σ.set n (some v)) H) : gName n v σ H QS := h
theorem rd_gtup {QS : L2.St → Hp → Prop} {t : TGs} (h : SqT K H a xs) (hn : xs.length = n) (q : t xs σ H QS) : gTup K n t (.ref a) σ H QS := ⟨a, xs, rfl, h, hn, q⟩
theorem rd_gcons {QS : L2.St → Hp → Prop} {t : TG} {u : TGs} {v : V} {r : List V} (q : t v σ H fun σ' H' => u r σ' H' QS) : gCons t u (v :: r) σ H QS := ⟨v, r, rfl, q⟩
theorem rd_gnil {QS : L2.St → Hp → Prop} (q : QS σ H) : gNil [] σ H QS := ⟨rfl, q⟩
theorem rd_tyL {P : Prop} (h : SqL K H a xs) (q : P) : tyV K "list" (.ref a) H ∧ P := ⟨.inl ⟨rfl, _, h⟩, q⟩

theorem rd_asgG (h : te σ H fun v H1 => g v σ H1 D.nx) : tAsg te g D σ H := h
theorem rd_ii {P : Int → Int → Prop} {i j : Int} (h : P i j) : ∃ k l, [V.int i, V.int j] = [.int k, .int l] ∧ P k l := ⟨i, j, rfl, h⟩
theorem max_nat (a b : Nat) : (if (b : Int) > (a : Int) then (b : Int) else (a : Int)) = ((max a b : Nat) : Int) := by
  split <;> omega
theorem min_nat (a b : Nat) : (if (b : Int) < (a : Int) then (b : Int) else (a : Int)) = ((min a b : Nat) : Int) := by
  split <;> omega
theorem rd_disp {trs : List (TE × TE)} (h : ∀ p, H p = none → tPairs trs σ (upd H p (.dK [])) fun ps H2 => H2 p = some (.dK []) ∧
    ∃ kvs : List (Key × V), ps = kvs.map (fun kv => (kV kv.1, kv.2)) ∧ kvs.length ≤ 15 ∧ Q (.ref p) (upd H2 p (.dK (mergeK [] kvs)))) : tDisp trs σ H Q := h
theorem rd_pcons {tk tv : TE} {r : List (TE × TE)} {QP : List (V × V) → Hp → Prop} (h : tk σ H fun x H1 => tv σ H1 fun y H2 => tPairs r σ H2 fun ps H3 => QP ((x, y) :: ps) H3) :
    tPairs ((tk, tv) :: r) σ H QP := h
theorem rd_pnil {QP : List (V × V) → Hp → Prop} (h : QP [] H) : tPairs [] σ H QP := h
theorem cut_ints (ns : List Int) (lo hi : Option Int) : ∃ ms : List Int, cutV (ns.map V.int) lo hi = ms.map V.int ∧ ms.length ≤ ns.length := by
  refine ⟨(ns.drop (HT.sIx ns.length 0 lo)).take (HT.sIx ns.length ns.length hi - HT.sIx ns.length 0 lo), ?_, ?_⟩
  · unfold cutV
    rw [List.length_map, List.map_take, List.map_drop]
  · rw [List.length_take, List.length_drop]
    omega
open Evl in
theorem given_ints (n : Nat) (f : Nat → Bool) (h : Nat → Int) : given n f (fun i => V.int (h i)) = (((List.range n).filter f).map h).map V.int := by
  unfold given
  rw [List.map_map]
  rfl
theorem forL {Nx : L2.St → Hp → Prop} {Rt : VK} (Pv : Nat → L2.St → Hp → Prop) (h0 : Pv 0 σ H) (hl : ∀ i σ H, i ≤ xs.length → Pv i σ H → SqL K H a xs)
    (hs : ∀ i x σ H, xs[i]? = some x → Pv i σ H → g x σ H fun σ2 H2 => tb { nx := Pv (i + 1), rt := Rt, ct := Pv (i + 1), bk := Nx } σ2 H2) (hd : ∀ σ H, Pv xs.length σ H → Nx σ H) :
    ∃ W : Nat → Nat → L2.St → Hp → Prop, (∃ m, W 0 m σ H) ∧ ∀ i m σ H, W i m σ H → ((Itl K a).stop i H ∧ Nx σ H) ∨ ((Itl K a).go i H ∧ ∃ N : L2.St → Hp → Prop,
      (∀ σ' H', N σ' H' → ∃ m', m' < m ∧ W (i + 1) m' σ' H') ∧ ∀ x H', (Itl K a).yld i H x H' → g x σ H' fun σ2 H2 => tb { nx := N, rt := Rt, bk := Nx, ct := N } σ2 H2) :=
  for_list (D := { nx := Nx, rt := Rt }) Pv h0 hl hs hd
theorem forT {Nx : L2.St → Hp → Prop} {Rt : VK} (Pv : Nat → L2.St → Hp → Prop) (h0 : Pv 0 σ H) (hl : ∀ i σ H, i ≤ xs.length → Pv i σ H → SqT K H a xs)
    (hs : ∀ i x σ H, xs[i]? = some x → Pv i σ H → g x σ H fun σ2 H2 => tb { nx := Pv (i + 1), rt := Rt, ct := Pv (i + 1), bk := Nx } σ2 H2) (hd : ∀ σ H, Pv xs.length σ H → Nx σ H) :
    ∃ W : Nat → Nat → L2.St → Hp → Prop, (∃ m, W 0 m σ H) ∧ ∀ i m σ H, W i m σ H → ((Itt K a).stop i H ∧ Nx σ H) ∨ ((Itt K a).go i H ∧ ∃ N : L2.St → Hp → Prop,
      (∀ σ' H', N σ' H' → ∃ m', m' < m ∧ W (i + 1) m' σ' H') ∧ ∀ x H', (Itt K a).yld i H x H' → g x σ H' fun σ2 H2 => tb { nx := N, rt := Rt, bk := Nx, ct := N } σ2 H2) :=
  for_tup (D := { nx := Nx, rt := Rt }) Pv h0 hl hs hd
theorem forR {Nx : L2.St → Hp → Prop} {Rt : VK} {lo : Int} (Pv : Nat → L2.St → Hp → Prop) (h0 : Pv 0 σ H) 
    (hs : ∀ i σ H, i < n → Pv i σ H → g (.int (lo + i)) σ H fun σ2 H2 => tb { nx := Pv (i + 1), rt := Rt, ct := Pv (i + 1), bk := Nx } σ2 H2) (hd : ∀ σ H, Pv n σ H → Nx σ H) :
    ∃ W : Nat → Nat → L2.St → Hp → Prop, (∃ m, W 0 m σ H) ∧ ∀ i m σ H, W i m σ H → ((Itr lo n).stop i H ∧ Nx σ H) ∨ ((Itr lo n).go i H ∧ ∃ N : L2.St → Hp → Prop,
      (∀ σ' H', N σ' H' → ∃ m', m' < m ∧ W (i + 1) m' σ' H') ∧ ∀ x H', (Itr lo n).yld i H x H' → g x σ H' fun σ2 H2 => tb { nx := N, rt := Rt, bk := Nx, ct := N } σ2 H2) :=
  for_range (D := { nx := Nx, rt := Rt }) Pv h0 hs hd
theorem walk_zipT {n : Nat} (hn : n = min xs.length ys.length) : Walk (ItzT K a b) n (fun H => SqT K H a xs ∧ SqT K H b ys) (YPair (fun i => xs[i]?) (fun i => ys[i]?)) := by
  subst hn
  refine ⟨?_, ?_, ?_⟩
  · intro i _ hi q
    have h1 : i < xs.length := by omega
    have h2 : i < ys.length := by omega
    exact ⟨xs, ys, xs[i], ys[i], q.1, q.2, by simp [h1], by simp [h2]⟩
  · intro _ q
    exact ⟨xs, ys, q.1, q.2, by omega⟩
  · intro i H v H' _ q y
    obtain ⟨T, x, z, h1, h2, h3, h4, h5⟩ := y
    exact ⟨T, x, z, h1, h2, h3, h4 xs q.1, h5 ys q.2⟩

open Evl in
/-- a comprehension whose turns change nothing that stood: the turn's item is src i, kept if f i, giving v i -/
theorem lc_src {J : It} {G : Hp → Prop} {Y : Nat → Hp → V → Hp → Prop} {Dl : Addr} {Qd : Hp → Prop} (w : Walk J n G Y) (src : Nat → V)
    (hy : ∀ i H x H', i < n → Y i H x H' → H' = H ∧ x = src i) (f : Nat → Bool) (v : Nat → V) (hn : n ≤ 1000000) (hD : H1 Dl = none)
    (hG : ∀ H', Same H1 H' → G H') (hw : ∀ x, wipe ((wipe σ vs).set j (some x)) vs = wipe σ vs)
    (ht : ∀ i H' (R : Bool → Hp → Prop), i < n → Same H1 H' → R (f i) H' → tt ((wipe σ vs).set j (some (src i))) H' R)
    (he : ∀ i H' (R : VK), i < n → f i = true → Same H1 H' → (∀ H'', Same H' H'' → R (v i) H'') → te ((wipe σ vs).set j (some (src i))) H' R)
    (hd : ∀ H', Same H1 H' → H' Dl = some (.lst (given n f v)) → Qd H') :
    ∃ W : Nat → Nat → Hp → Prop, (∃ m, W 0 m (upd H1 Dl (.lst []))) ∧ ∀ i m H, W i m H →
      (J.stop i H ∧ Qd H) ∨ (J.go i H ∧ ∃ Nx : Hp → Prop, (∀ H', Nx H' → ∃ m', m' < m ∧ W (i + 1) m' H') ∧
        ∀ x H', J.yld i H x H' → gName j x (wipe σ vs) H' fun σ2 H2 => wipe σ2 vs = wipe σ vs ∧ tt σ2 H2 fun b H3 =>
          if b = true then te σ2 H3 fun y H4 => ∃ acc, H4 Dl = some (.lst acc) ∧ acc.length < sizeLine ∧ Nx (upd H4 Dl (.lst (acc ++ [y]))) else Nx H3) := by
  refine lc_it w (fun i H' => Same H1 H' ∧ H' Dl = some (.lst (given i f v))) ⟨Same.new hD _, upd_same⟩ (fun i H' _ p => hG H' p.1) ?_ fun H' p => hd H' p.1 p.2
  intro i x H H' hi p y
  obtain ⟨rfl, rfl⟩ := hy i H x H' hi y
  refine ⟨hw _, ht i H' _ hi p.1 ?_⟩
  cases hf : f i with
  | false =>
    refine iteF ⟨p.1, ?_⟩
    rw [given_no hf]
    exact p.2
  | true =>
    refine iteT (he i H' _ hi hf p.1 fun H'' s => ⟨given i f v, s _ _ p.2, ?_, ?_, ?_⟩)
    · have := given_len i f v
      rw [sizeLine_eq]
      omega
    · exact Same.put (p.1.trans s) hD _
    · rw [given_yes hf]
      exact upd_same
open Evl in
/-- the same over zip of two tuples -/
theorem lc_zip {Dl : Addr} {Qd : Hp → Prop} (v : Nat → V) (hl : xs.length = ys.length) (hn : xs.length ≤ 1000000) (hD : H1 Dl = none)
    (hx : SqT K H1 a xs) (hy : SqT K H1 b ys) (hw : ∀ x y, wipe (((wipe σ vs).set i1 (some x)).set i2 (some y)) vs = wipe σ vs)
    (he : ∀ i x y H' (R : VK), xs[i]? = some x → ys[i]? = some y → Same H1 H' → (∀ H'', Same H' H'' → R (v i) H'') →
      te (((wipe σ vs).set i1 (some x)).set i2 (some y)) H' R)
    (hd : ∀ H', Same H1 H' → H' Dl = some (.lst ((List.range xs.length).map v)) → Qd H') :
    ∃ W : Nat → Nat → Hp → Prop, (∃ m, W 0 m (upd H1 Dl (.lst []))) ∧ ∀ i m H, W i m H →
      ((ItzT K a b).stop i H ∧ Qd H) ∨ ((ItzT K a b).go i H ∧ ∃ Nx : Hp → Prop, (∀ H', Nx H' → ∃ m', m' < m ∧ W (i + 1) m' H') ∧
        ∀ x H', (ItzT K a b).yld i H x H' → gTup K 2 (gCons (gName i1) (gCons (gName i2) gNil)) x (wipe σ vs) H' fun σ2 H2 => wipe σ2 vs = wipe σ vs ∧ tYes σ2 H2 fun b H3 =>
          if b = true then te σ2 H3 fun y H4 => ∃ acc, H4 Dl = some (.lst acc) ∧ acc.length < sizeLine ∧ Nx (upd H4 Dl (.lst (acc ++ [y]))) else Nx H3) := by
  refine lc_it (walk_zipT (n := xs.length) (xs := xs) (ys := ys) (by omega)) (fun i H' => Same H1 H' ∧ H' Dl = some (.lst ((List.range i).map v)))
    ⟨Same.new hD _, upd_same⟩ (fun i H' _ p => ⟨p.1.seqT hx, p.1.seqT hy⟩) ?_ fun H' p => hd H' p.1 p.2
  rintro i z H H' hi ⟨s, e⟩ ⟨T, x, y, rfl, nT, rfl, ex, ey⟩
  have s' : Same H1 (upd H T (.tup [x, y])) := s.trans (Same.new nT _)
  have nDT : Dl ≠ T := ne_of_none e nT
  refine rd_gtup (xs := [x, y]) (sqT upd_same) rfl (rd_gcons (rd_gname (rd_gcons (rd_gname (rd_gnil ⟨hw x y, ?_⟩)))))
  refine rd_yes (iteT (he i x y _ _ ex ey s' fun H'' s'' => ⟨(List.range i).map v, s'' _ _ (by rw [upd_ne nDT]; exact e), ?_, ?_, ?_⟩))
  · rw [List.length_map, List.length_range, sizeLine_eq]
    omega
  · exact Same.put (s'.trans s'') hD _
  · rw [upd_same, List.range_succ, List.map_append]
    rfl
end
end Gd

/-! # sayings -/
namespace Gd
open PySem PySem.Spec PyProof.Rows L2

inductive Mk6 where
  | plus | times | leads | and | or | same
def Mk6.str : Mk6 → Str
  | .plus => "plus" | .times => "times" | .leads => "leads" | .and => "and" | .or => "or" | .same => "same"
inductive Say where
  | unk (x : Str) | yes | no | not (a : Say) | bin (k : Mk6) (a b : Say)
def Say.head : Say → Str
  | .unk _ => "unknown" | .yes => "yes" | .no => "no" | .not _ => "not" | .bin k _ _ => k.str
def Say.kids : Say → List Say
  | .unk _ => [] | .yes => [] | .no => [] | .not a => [a] | .bin _ a b => [a, b]
def Say.isUnk : Say → Bool
  | .unk _ => true | _ => false
def Say.depth : Say → Nat
  | .unk _ => 0 | .yes => 0 | .no => 0 | .not a => a.depth + 1 | .bin _ a b => max a.depth b.depth + 1
def Say.words : Say → Nat
  | .unk _ => 1 | .yes => 1 | .no => 1 | .not a => a.words + 1 | .bin _ a b => a.words + b.words + 1
def Say.marks : Say → Nat
  | .unk _ => 0 | .yes => 0 | .no => 0 | .not a => a.marks | .bin _ a b => a.marks + b.marks + 1
/-- the names, as often as they stand there -/
def Say.leaves : Say → List Str
  | .unk x => [x] | .yes => [] | .no => [] | .not a => a.leaves | .bin _ a b => a.leaves ++ b.leaves
def Say.namesIn : Say → List Str → List Str
  | .unk x, f => if x ∈ f then f else f ++ [x]
  | .yes, f => f | .no, f => f | .not a, f => a.namesIn f | .bin _ a b, f => b.namesIn (a.namesIn f)
/-- all words in writing order -/
def Say.all : Say → List Say
  | .unk x => [.unk x] | .yes => [.yes] | .no => [.no] | .not a => .not a :: a.all | .bin k a b => .bin k a b :: (a.all ++ b.all)
def SayAt (H : Hp) : Say → V → Prop
  | .unk x, v => ∃ p, v = .ref p ∧ H p = some (.tup [.str "unknown", .str x])
  | .yes, v => ∃ p, v = .ref p ∧ H p = some (.tup [.str "yes"])
  | .no, v => ∃ p, v = .ref p ∧ H p = some (.tup [.str "no"])
  | .not a, v => ∃ p u, v = .ref p ∧ H p = some (.tup [.str "not", u]) ∧ SayAt H a u
  | .bin k a b, v => ∃ p u w, v = .ref p ∧ H p = some (.tup [.str k.str, u, w]) ∧ SayAt H a u ∧ SayAt H b w
/-- tuples stay -/
def Tk (H H' : Hp) : Prop := ∀ p xs, H p = some (.tup xs) → H' p = some (.tup xs)
section
variable {H H' H1 : Hp} {s : Say} {v : V} {m : Addr}
theorem Tk.refl : Tk H H := fun _ _ h => h
theorem Tk.trans (a : Tk H H1) (b : Tk H1 H') : Tk H H' := fun p xs h => b p xs (a p xs h)
theorem Tk.of (h : Same H H') : Tk H H' := fun p xs e => h _ _ e
theorem Tk.kp {kvs : List (Key × V)} (h : Kp m H H') (e : H m = some (.dK kvs)) : Tk H H' := fun p xs q => h.get q e (fun z => nomatch z)
theorem SayAt.keep (t : Tk H H') : ∀ {s : Say} {v : V}, SayAt H s v → SayAt H' s v
  | .unk x, v, ⟨p, e, h⟩ => ⟨p, e, t _ _ h⟩
  | .yes, v, ⟨p, e, h⟩ => ⟨p, e, t _ _ h⟩
  | .no, v, ⟨p, e, h⟩ => ⟨p, e, t _ _ h⟩
  | .not a, v, ⟨p, u, e, h, ha⟩ => ⟨p, u, e, t _ _ h, SayAt.keep t ha⟩
  | .bin k a b, v, ⟨p, u, w, e, h, ha, hb⟩ => ⟨p, u, w, e, t _ _ h, SayAt.keep t ha, SayAt.keep t hb⟩
/-- sayings at values, one by one -/
inductive SaysAt (H : Hp) : List Say → List V → Prop
  | nil : SaysAt H [] []
  | cons {s : Say} {v : V} {ss : List Say} {vs : List V} : SayAt H s v → SaysAt H ss vs → SaysAt H (s :: ss) (v :: vs)
theorem SaysAt.keep (t : Tk H H') : ∀ {ss : List Say} {vs : List V}, SaysAt H ss vs → SaysAt H' ss vs
  | _, _, .nil => .nil
  | _, _, .cons a b => .cons (SayAt.keep t a) (SaysAt.keep t b)
theorem SaysAt.length : ∀ {ss : List Say} {vs : List V}, SaysAt H ss vs → ss.length = vs.length
  | _, _, .nil => rfl
  | _, _, .cons a b => congrArg Nat.succ b.length
theorem SaysAt.get : ∀ {ss : List Say} {vs : List V} {i : Nat} {v : V}, SaysAt H ss vs → vs[i]? = some v → ∃ s, ss[i]? = some s ∧ SayAt H s v
  | _, _, i, v, .nil, e => by simp at e
  | _, _, 0, v, .cons a b, e => by
    obtain rfl := Option.some.inj e
    exact ⟨_, rfl, a⟩
  | _, _, i + 1, v, .cons a b, e => b.get (i := i) e
theorem SaysAt.append : ∀ {ss tt : List Say} {vs ws : List V}, SaysAt H ss vs → SaysAt H tt ws → SaysAt H (ss ++ tt) (vs ++ ws)
  | _, _, _, _, .nil, b => b
  | _, _, _, _, .cons a r, b => .cons a (r.append b)
/-- the tuple of a saying -/
theorem SayAt.node : ∀ {s : Say} {v : V}, SayAt H s v → ∃ p items, v = .ref p ∧ H p = some (.tup (.str s.head :: items)) ∧
    ((∃ x, s = .unk x ∧ items = [.str x]) ∨ (s.isUnk = false ∧ SaysAt H s.kids items))
  | .unk x, v, ⟨p, e, h⟩ => ⟨p, _, e, h, .inl ⟨x, rfl, rfl⟩⟩
  | .yes, v, ⟨p, e, h⟩ => ⟨p, _, e, h, .inr ⟨rfl, .nil⟩⟩
  | .no, v, ⟨p, e, h⟩ => ⟨p, _, e, h, .inr ⟨rfl, .nil⟩⟩
  | .not a, v, ⟨p, u, e, h, ha⟩ => ⟨p, _, e, h, .inr ⟨rfl, .cons ha .nil⟩⟩
  | .bin k a b, v, ⟨p, u, w, e, h, ha, hb⟩ => ⟨p, _, e, h, .inr ⟨rfl, .cons ha (.cons hb .nil)⟩⟩
theorem kid_depth : ∀ {s t : Say}, t ∈ s.kids → t.depth < s.depth
  | .not a, t, h => by
    obtain rfl := List.mem_singleton.mp h
    exact Nat.lt_succ_self _
  | .bin k a b, t, h => by
    have e : t = a ∨ t = b := by simpa [Say.kids] using h
    show t.depth < max a.depth b.depth + 1
    rcases e with rfl | rfl <;> omega
theorem kids_le (s : Say) : s.kids.length ≤ 2 := by cases s <;> simp [Say.kids]
theorem mk6_unk : ∀ k : Mk6, ¬ V.str k.str = V.str "unknown" := by
  intro k
  cases k <;> decide +kernel
theorem mk6_not : ∀ k : Mk6, ¬ V.str k.str = V.str "not" := by
  intro k
  cases k <;> decide +kernel
theorem head_unk {s : Say} (h : s.isUnk = false) : ¬ V.str s.head = V.str "unknown" := by
  cases s with
  | unk x => cases h
  | yes => exact (by decide +kernel : ¬ V.str "yes" = V.str "unknown")
  | no => exact (by decide +kernel : ¬ V.str "no" = V.str "unknown")
  | not a => exact (by decide +kernel : ¬ V.str "not" = V.str "unknown")
  | bin k a b => exact mk6_unk k
def marksV : List V := [.str "plus", .str "times", .str "leads", .str "and", .str "or", .str "same"]
def Say.isBin : Say → Bool
  | .bin _ _ _ => true | _ => false
def Say.isNot : Say → Bool
  | .not _ => true | _ => false
theorem mk6_marks : ∀ k : Mk6, inV (.str k.str) marksV = true := by
  intro k
  cases k <;> decide +kernel
theorem in_marks (s : Say) : inV (.str s.head) marksV = s.isBin := by
  cases s with
  | unk x => exact (by decide +kernel : inV (.str "unknown") marksV = false)
  | yes => exact (by decide +kernel : inV (.str "yes") marksV = false)
  | no => exact (by decide +kernel : inV (.str "no") marksV = false)
  | not a => exact (by decide +kernel : inV (.str "not") marksV = false)
  | bin k a b => exact mk6_marks k
theorem head_not (s : Say) : decide (V.str s.head = V.str "not") = s.isNot := by
  cases s with
  | unk x => exact (by decide +kernel : decide (V.str "unknown" = V.str "not") = false)
  | yes => exact (by decide +kernel : decide (V.str "yes" = V.str "not") = false)
  | no => exact (by decide +kernel : decide (V.str "no" = V.str "not") = false)
  | not a => exact (by decide +kernel : decide (V.str "not" = V.str "not") = true)
  | bin k a b => exact decide_eq_false (mk6_not k)
theorem cut_tail (x : V) (xs : List V) : cutV (x :: xs) (some 1) none = xs := by
  unfold cutV
  have e1 : HT.sIx (x :: xs).length 0 (some 1) = 1 := by
    rw [show HT.sIx (x :: xs).length 0 (some 1) = min 1 (x :: xs).length from HT.sIx_nat _ 0 1]
    rw [List.length_cons]
    omega
  rw [e1, HT.sIx_none, List.length_cons, Nat.add_sub_cancel]
  exact List.take_length
theorem inV_strs (x : Str) (fs : List Str) : inV (.str x) (fs.map V.str) = decide (x ∈ fs) := by
  unfold inV
  rw [List.any_map]
  induction fs with
  | nil => rfl
  | cons y r ih =>
    rw [List.any_cons, ih]
    show ((y == x) || decide (x ∈ r)) = decide (x ∈ y :: r)
    by_cases e : x = y
    · subst e
      simp
    · have e' : ¬ y = x := fun z => e z.symm
      simp [e, e']
theorem flat_strs (fs : List Str) : (fs.map V.str).all flatV = true := by
  rw [List.all_map]
  exact List.all_eq_true.mpr fun x _ => rfl
section
variable {K : PySem.W.Frag} {H : Hp} {Q : VK} {a : Addr} {x : V} {xs : List V}
theorem rd_in (hs : SqL K H a xs ∨ SqT K H a xs) (hx : flatV x = true) (hf : xs.all flatV = true) {b : Bool} (hb : inV x xs = b) (h : Q (.bl b) H) : rIn K false x (.ref a) H Q := by
  refine ⟨a, xs, rfl, hs, hx, hf, ?_⟩
  rw [hb]
  exact h
theorem rd_tail (hs : SqT K H a (x :: xs)) (h : ∀ p, H p = none → Q (.ref p) (upd H p (.tup xs))) : rSlT K (.ref a) (some 1) none H Q := by
  refine ⟨a, x :: xs, rfl, hs, ?_, ?_⟩
  · rintro ⟨z, _⟩
    rw [show HT.sIx (x :: xs).length 0 (some 1) = min 1 (x :: xs).length from HT.sIx_nat _ 0 1, List.length_cons] at z
    omega
  · rw [cut_tail]
    exact h
end
def wsum (l : List Say) : Nat := (l.map Say.words).sum
theorem words_kids : ∀ s : Say, s.words = wsum s.kids + 1 := by
  intro s
  cases s <;> simp [Say.words, Say.kids, wsum]
theorem wsum_take {l : List Say} {i : Nat} {k : Say} (h : l[i]? = some k) : wsum (l.take i) + k.words ≤ wsum l := by
  induction l generalizing i with
  | nil => simp at h
  | cons x r ih =>
    cases i with
    | zero =>
      obtain rfl := Option.some.inj h
      show 0 + x.words ≤ x.words + wsum r
      omega
    | succ i =>
      have := ih (i := i) h
      show x.words + wsum (r.take i) + k.words ≤ x.words + wsum r
      omega
theorem names_len : ∀ (s : Say) (f : List Str), (s.namesIn f).length ≤ f.length + s.words
  | .unk x, f => by
    show (if x ∈ f then f else f ++ [x]).length ≤ f.length + 1
    split
    · omega
    · simp
  | .yes, f => Nat.le_add_right _ _
  | .no, f => Nat.le_add_right _ _
  | .not a, f => Nat.le_trans (names_len a f) (by show f.length + a.words ≤ f.length + (a.words + 1); omega)
  | .bin k a b, f => by
    have h1 := names_len a f
    have h2 := names_len b (a.namesIn f)
    show (b.namesIn (a.namesIn f)).length ≤ f.length + (a.words + b.words + 1)
    omega
def foldNames (l : List Say) (f : List Str) : List Str := l.foldl (fun f k => k.namesIn f) f
theorem fold_len (l : List Say) : ∀ f, (foldNames l f).length ≤ f.length + wsum l := by
  induction l with
  | nil => intro f; exact Nat.le_add_right _ _
  | cons x r ih =>
    intro f
    have h1 := ih (x.namesIn f)
    have h2 := names_len x f
    show (foldNames r (x.namesIn f)).length ≤ f.length + (x.words + wsum r)
    omega
theorem fold_more {l : List Say} {i : Nat} {k : Say} (h : l[i]? = some k) (f : List Str) : foldNames (l.take (i + 1)) f = k.namesIn (foldNames (l.take i) f) := by
  unfold foldNames
  rw [List.take_add_one, h, List.foldl_append]
  rfl
theorem names_kids {s : Say} (h : s.isUnk = false) (f : List Str) : s.namesIn f = foldNames s.kids f := by
  cases s with
  | unk x => cases h
  | yes => rfl
  | no => rfl
  | not a => rfl
  | bin k a b => rfl
def Say.heads (s : Say) : List Str := s.all.map Say.head
def Say.flatL : List Say → List Str := fun l => (l.map Say.heads).flatten
def Say.leavesL : List Say → List Str := fun l => (l.map Say.leaves).flatten
def Say.deepL : List Say → Nat := fun l => l.foldl (fun d k => max d (k.depth + 1)) 0
theorem heads_kids (s : Say) : s.heads = s.head :: Say.flatL s.kids := by
  cases s with
  | unk x => rfl
  | yes => rfl
  | no => rfl
  | not a => simp [Say.heads, Say.all, Say.flatL, Say.kids, Say.head]
  | bin k a b => simp [Say.heads, Say.all, Say.flatL, Say.kids, Say.head]
theorem leaves_kids {s : Say} (h : s.isUnk = false) : s.leaves = Say.leavesL s.kids := by
  cases s with
  | unk x => cases h
  | yes => rfl
  | no => rfl
  | not a => simp [Say.leaves, Say.leavesL, Say.kids]
  | bin k a b => simp [Say.leaves, Say.leavesL, Say.kids]
theorem depth_kids (s : Say) : s.depth = Say.deepL s.kids := by
  cases s with
  | unk x => rfl
  | yes => rfl
  | no => rfl
  | not a => show a.depth + 1 = max 0 (a.depth + 1); omega
  | bin k a b => show max a.depth b.depth + 1 = max (max 0 (a.depth + 1)) (b.depth + 1); omega
theorem all_len : ∀ s : Say, s.all.length = s.words
  | .unk x => rfl
  | .yes => rfl
  | .no => rfl
  | .not a => by show a.all.length + 1 = _; rw [all_len a]; rfl
  | .bin k a b => by show (a.all ++ b.all).length + 1 = _; rw [List.length_append, all_len a, all_len b]; rfl
theorem heads_len (s : Say) : s.heads.length = s.words := by
  unfold Say.heads
  rw [List.length_map, all_len]
theorem leaves_len : ∀ s : Say, s.leaves.length ≤ s.words
  | .unk x => Nat.le_refl _
  | .yes => Nat.zero_le _
  | .no => Nat.zero_le _
  | .not a => Nat.le_trans (leaves_len a) (Nat.le_succ _)
  | .bin k a b => by
    have h1 := leaves_len a
    have h2 := leaves_len b
    show (a.leaves ++ b.leaves).length ≤ a.words + b.words + 1
    rw [List.length_append]
    omega
theorem flat_len (l : List Say) : (Say.flatL l).length = wsum l := by
  induction l with
  | nil => rfl
  | cons x r ih =>
    show (x.heads ++ Say.flatL r).length = x.words + wsum r
    rw [List.length_append, heads_len, ih]
theorem leavesL_len (l : List Say) : (Say.leavesL l).length ≤ wsum l := by
  induction l with
  | nil => exact Nat.le_refl _
  | cons x r ih =>
    have h := leaves_len x
    show (x.leaves ++ Say.leavesL r).length ≤ x.words + wsum r
    rw [List.length_append]
    omega
theorem flat_more {l : List Say} {i : Nat} {k : Say} (h : l[i]? = some k) : Say.flatL (l.take (i + 1)) = Say.flatL (l.take i) ++ k.heads := by
  unfold Say.flatL
  rw [List.take_add_one, h, List.map_append, List.flatten_append]
  show _ ++ (k.heads ++ []) = _
  rw [List.append_nil]
theorem leaves_more {l : List Say} {i : Nat} {k : Say} (h : l[i]? = some k) : Say.leavesL (l.take (i + 1)) = Say.leavesL (l.take i) ++ k.leaves := by
  unfold Say.leavesL
  rw [List.take_add_one, h, List.map_append, List.flatten_append]
  show _ ++ (k.leaves ++ []) = _
  rw [List.append_nil]
theorem deep_more {l : List Say} {i : Nat} {k : Say} (h : l[i]? = some k) : Say.deepL (l.take (i + 1)) = max (Say.deepL (l.take i)) (k.depth + 1) := by
  unfold Say.deepL
  rw [List.take_add_one, h, List.foldl_append]
  rfl
def leafV : List V := [.str "unknown", .str "yes", .str "no"]
def Say.isLeaf : Say → Bool
  | .unk _ => true | .yes => true | .no => true | _ => false
theorem mk6_leaf : ∀ k : Mk6, inV (.str k.str) leafV = false := by
  intro k
  cases k <;> decide +kernel
theorem in_leaf (s : Say) : inV (.str s.head) leafV = s.isLeaf := by
  cases s with
  | unk x => exact (by decide +kernel : inV (.str "unknown") leafV = true)
  | yes => exact (by decide +kernel : inV (.str "yes") leafV = true)
  | no => exact (by decide +kernel : inV (.str "no") leafV = true)
  | not a => exact (by decide +kernel : inV (.str "not") leafV = false)
  | bin k a b => exact mk6_leaf k
/-- a test whose answer is a known truth value -/
theorem rd_bool {b : Bool} {A B : Prop} (h1 : b = true → A) (h2 : b = false → B) : if b = true then A else B := by
  cases b with
  | true => exact iteT (h1 rfl)
  | false => exact iteF (h2 rfl)
section
variable {K : PySem.W.Frag} {σ : L2.St} {H : Hp} {Q : VK} {D : Ends} {c : TT} {tb : TS} {a : Addr} {xs ys : List V}
theorem rd_while (W : Nat → L2.St → Hp → Prop) (m0 : Nat) (h0 : W m0 σ H) (hs : ∀ m σ H, W m σ H →
    c σ H fun b H1 => if b = true then ∃ N : L2.St → Hp → Prop, (∀ σ' H', N σ' H' → ∃ m', m' < m ∧ W m' σ' H') ∧ tb { D with nx := N, ct := N, bk := D.nx } σ H1 else D.nx σ H1) :
    tWhile c tb D σ H := ⟨W, ⟨m0, h0⟩, hs⟩
theorem rd_go {W : Nat → L2.St → Hp → Prop} {m : Nat} {P : (L2.St → Hp → Prop) → Prop} {B : Prop} (h : P fun σ' H' => ∃ m', m' < m ∧ W m' σ' H') :
    if true = true then ∃ N : L2.St → Hp → Prop, (∀ σ' H', N σ' H' → ∃ m', m' < m ∧ W m' σ' H') ∧ P N else B := iteT ⟨_, fun _ _ z => z, h⟩
theorem rd_truL {P : Bool → Prop} (h : SqL K H a xs) (q : P (!xs.isEmpty)) : ∃ k, TruV K (.ref a) H k ∧ P k := ⟨_, .inl ⟨xs, h, rfl⟩, q⟩
theorem rd_truT {P : Bool → Prop} (h : SqT K H a xs) (q : P (!xs.isEmpty)) : ∃ k, TruV K (.ref a) H k ∧ P k := ⟨_, .inr (.inl ⟨xs, h, rfl⟩), q⟩
theorem rd_pop {v : V} (h : H a = some (.lst (v :: xs).reverse)) (q : Q v (upd H a (.lst xs.reverse))) : rPop (.ref a) [] H Q := by
  have e : (v :: xs).reverse = xs.reverse ++ [v] := List.reverse_cons
  refine ⟨a, _, v, rfl, rfl, h, ?_, ?_⟩
  · rw [e, List.length_append, List.length_singleton, Nat.add_sub_cancel, List.getElem?_append_right (Nat.le_refl _), Nat.sub_self]
    rfl
  · rw [e, List.dropLast_concat]
    exact q
theorem rd_append {v : V} (h : H a = some (.lst xs)) (hz : xs.length < 1000000) (q : Q .non (upd H a (.lst (xs ++ [v])))) : rAppend (.ref a) [v] H Q :=
  ⟨a, xs, v, rfl, rfl, h, Nat.lt_trans hz (by decide), q⟩
theorem rd_extT {b : Addr} (h : H a = some (.lst xs)) (hb : H b = some (.tup ys)) (hz : xs.length + ys.length ≤ 1000000) (q : Q .non (upd H a (.lst (xs ++ ys)))) : rExtT K (.ref a) [.ref b] H Q :=
  ⟨a, b, xs, ys, rfl, rfl, h, hb, Nat.le_trans hz (by decide), q⟩
theorem rd_revT {te : TE} (h : te σ H fun x H1 => ∃ a xs, x = .ref a ∧ SqT K H1 a xs ∧ ∀ p, H1 p = none → Q (.ref p) (upd H1 p (.tup xs.reverse))) : tRevT K te σ H Q := h
theorem rd_revAt {P : List V → Prop} (h : SqT K H a xs) (q : P xs) : ∃ b ys, V.ref a = .ref b ∧ SqT K H b ys ∧ P ys := ⟨a, xs, rfl, h, q⟩
theorem rd_bm {T : String} {r : V → List V → Hp → VK → Prop} {to : TE} {t : TA} (h : to σ H fun x H1 => tyV K T x H1 ∧ t σ H1 fun xs H2 => r x xs H2 Q) : tBM K T r to t σ H Q := h
theorem rd_bm0 {T : String} {r : V → List V → Hp → VK → Prop} {to : TE} (h : to σ H fun x H1 => tyV K T x H1 ∧ r x [] H1 Q) : tBM0 K T r to σ H Q := h
end
/-- all words of several, one behind the other -/
def allL (l : List Say) : List Say := (l.map Say.all).flatten
theorem all_kids (s : Say) : s.all = s :: allL s.kids := by
  cases s with
  | unk x => rfl
  | yes => rfl
  | no => rfl
  | not a => simp [Say.all, allL, Say.kids]
  | bin k a b => simp [Say.all, allL, Say.kids]
theorem allL_append (l r : List Say) : allL (l ++ r) = allL l ++ allL r := by
  unfold allL
  rw [List.map_append, List.flatten_append]
theorem wsum_append (l r : List Say) : wsum (l ++ r) = wsum l + wsum r := by
  unfold wsum
  rw [List.map_append, List.sum_append_nat]
theorem allL_len (l : List Say) : (allL l).length = wsum l := by
  induction l with
  | nil => rfl
  | cons x r ih =>
    show (x.all ++ allL r).length = x.words + wsum r
    rw [List.length_append, all_len, ih]
theorem words_pos (s : Say) : 0 < s.words := by
  rw [words_kids]
  exact Nat.succ_pos _
theorem len_wsum (l : List Say) : l.length ≤ wsum l := by
  induction l with
  | nil => exact Nat.le_refl _
  | cons x r ih =>
    have := words_pos x
    show r.length + 1 ≤ x.words + wsum r
    omega
theorem count_range {α : Type} (l : List α) (d : α) (f : α → Bool) : ((List.range l.length).filter fun i => f (l.getD i d)).length = (l.filter f).length := by
  induction l with
  | nil => rfl
  | cons x r ih =>
    have e : (fun i => f ((x :: r).getD i d)) ∘ Nat.succ = fun i => f (r.getD i d) := rfl
    rw [List.length_cons, List.range_succ_eq_map, List.filter_cons, List.filter_map, e]
    have e0 : (x :: r).getD 0 d = x := rfl
    rw [e0, List.filter_cons]
    by_cases h : f x = true
    · rw [if_pos h, if_pos h, List.length_cons, List.length_cons, List.length_map, ih]
    · rw [if_neg h, if_neg h, List.length_map, ih]
theorem marks_count : ∀ s : Say, (s.all.filter Say.isBin).length = s.marks
  | .unk x => rfl
  | .yes => rfl
  | .no => rfl
  | .not a => by
    show ((Say.not a :: a.all).filter Say.isBin).length = a.marks
    rw [List.filter_cons_of_neg (show ¬ Say.isBin (.not a) = true from Bool.false_ne_true), marks_count a]
  | .bin k a b => by
    show ((Say.bin k a b :: (a.all ++ b.all)).filter Say.isBin).length = a.marks + b.marks + 1
    rw [List.filter_cons_of_pos (show Say.isBin (.bin k a b) = true from rfl), List.length_cons, List.filter_append, List.length_append, marks_count a, marks_count b]
/-- a text of the six marks -/
theorem mk6_of {v : V} (h : v ∈ ([.str "plus", .str "times", .str "leads", .str "and", .str "or", .str "same", .str "plus", .str "times", .str "leads"] : List V)) : ∃ k : Mk6, v = .str k.str := by
  simp only [List.mem_cons, List.not_mem_nil, or_false] at h
  rcases h with rfl | rfl | rfl | rfl | rfl | rfl | rfl | rfl | rfl
  · exact ⟨.plus, rfl⟩
  · exact ⟨.times, rfl⟩
  · exact ⟨.leads, rfl⟩
  · exact ⟨.and, rfl⟩
  · exact ⟨.or, rfl⟩
  · exact ⟨.same, rfl⟩
  · exact ⟨.plus, rfl⟩
  · exact ⟨.times, rfl⟩
  · exact ⟨.leads, rfl⟩
theorem rd_ints {i j : Int} {A B : Prop} (h1 : i = j → A) (h2 : i ≠ j → B) : if decide (V.int i = V.int j) = true then A else B :=
  rd_two (fun c => h1 (V.int.inj c)) fun c => h2 fun e => c (congrArg V.int e)
end
end Gd

/-! # data that shows well; sayings as data -/
namespace Gd
open PySem PySem.Spec PyProof.Rows L2
mutual
def smallD : PyData → Bool
  | .none => true
  | .bool _ => true
  | .int i => decide (i.natAbs < 10 ^ 11)
  | .str x => PyData.strOk x
  | .list xs => smallDs xs
  | .tuple xs => smallDs xs
  | .dict _ => false
def smallDs : List PyData → Bool
  | [] => true
  | x :: xs => smallD x && smallDs xs
end
mutual
theorem small_lay : ∀ d : PyData, smallD d = true → d.canLay0 = true
  | .none, _ => rfl
  | .bool _, _ => rfl
  | .int _, _ => rfl
  | .str x, h => by rw [smallD] at h; rw [PyData.canLay0]; exact h
  | .list xs, h => by rw [smallD] at h; rw [PyData.canLay0]; exact smalls_lay xs h
  | .tuple xs, h => by rw [smallD] at h; rw [PyData.canLay0]; exact smalls_lay xs h
  | .dict _, h => by rw [smallD] at h; cases h
theorem smalls_lay : ∀ xs : List PyData, smallDs xs = true → PyData.canLayAll0 xs = true
  | [], _ => rfl
  | x :: xs, h => by
    rw [smallDs, Bool.and_eq_true] at h
    rw [PyData.canLayAll0, small_lay x h.1, smalls_lay xs h.2]
    rfl
end
theorem PyData_int_len (i : Int) (h : i.natAbs < 10 ^ 11) : (PyData.shown (.int i)).length ≤ 12 := by
  rw [PyData.shown]
  have := int_text_length_le10 (k := 11) (by decide) h
  rw [PySem.ofString_length]
  exact this
mutual
theorem small_ints : ∀ d : PyData, smallD d = true → d.intsShort 13 = true
  | .none, _ => rfl
  | .bool _, _ => rfl
  | .int i, h => by
    rw [smallD, decide_eq_true_eq] at h
    rw [PyData.intsShort, decide_eq_true_eq]
    exact Nat.le_trans (PyData_int_len i h) (by decide)
  | .str x, h => rfl
  | .list xs, h => by rw [smallD] at h; rw [PyData.intsShort]; exact smalls_ints xs h
  | .tuple xs, h => by rw [smallD] at h; rw [PyData.intsShort]; exact smalls_ints xs h
  | .dict _, h => rfl
theorem smalls_ints : ∀ xs : List PyData, smallDs xs = true → PyData.intsShortAll 13 xs = true
  | [], _ => rfl
  | x :: xs, h => by
    rw [smallDs, Bool.and_eq_true] at h
    rw [PyData.intsShortAll, small_ints x h.1, smalls_ints xs h.2]
    rfl
end
mutual
theorem small_show : ∀ d : PyData, smallD d = true → d.showable = true
  | .none, _ => rfl
  | .bool _, _ => rfl
  | .int i, h => by
    rw [smallD, decide_eq_true_eq] at h
    rw [PyData.showable, decide_eq_true_eq]
    by_cases z : i.natAbs = 0
    · rw [z]; decide
    · refine (Nat.log2_lt z).mpr (Nat.lt_of_lt_of_le h ?_)
      exact Nat.le_trans (show 10 ^ 11 ≤ 2 ^ 64 by decide) (Nat.pow_le_pow_right (by decide) (by decide))
  | .str x, h => rfl
  | .list xs, h => by rw [smallD] at h; rw [PyData.showable]; exact smalls_show xs h
  | .tuple xs, h => by rw [smallD] at h; rw [PyData.showable]; exact smalls_show xs h
  | .dict _, h => by rw [smallD] at h; cases h
theorem smalls_show : ∀ xs : List PyData, smallDs xs = true → PyData.showableAll xs = true
  | [], _ => rfl
  | x :: xs, h => by
    rw [smallDs, Bool.and_eq_true] at h
    rw [PyData.showableAll, small_show x h.1, smalls_show xs h.2]
    rfl
end
section
variable {K : PySem.W.Frag} {H : Hp} {Q : VK} {v x y : V} {d d' : PyData}
theorem rd_repr (hd : Dp K H v d) (h : smallD d = true) (hb : d.bulk ≤ 1000000) (dp : d.depth ≤ 150) (q : Q (.str d.shown) H) : rRepr K [v] H Q :=
  ⟨v, d, rfl, hd, small_show d h, PyData.hasDict_of_canLay d (small_lay d h), dp,
    PyData.shown_fits_bulk (B := 13) (by decide) (by decide) (PyData.leavesShort_of_canLay0 13 d (small_lay d h) (small_ints d h)) (Nat.le_trans hb (by decide)), q⟩
theorem small_shaped (h : smallD d = true) (dp : d.depth ≤ 64) : SeqAt.shaped d = true := by
  show (d.canLay0 && decide (d.depth ≤ 64)) = true
  rw [small_lay d h, decide_eq_true dp]
  rfl
theorem rd_neD (hd : Dp K H x d) (he : Dp K H y d') (h1 : smallD d = true) (h2 : smallD d' = true) (p1 : d.depth ≤ 64) (p2 : d'.depth ≤ 64) (q : Q (.bl (!d.eqv d')) H) : rNeD K x y H Q :=
  ⟨d, d', hd, he, small_shaped h1 p1, small_shaped h2 p2, q⟩
theorem rd_eqD (hd : Dp K H x d) (he : Dp K H y d') (h1 : smallD d = true) (h2 : smallD d' = true) (p1 : d.depth ≤ 64) (p2 : d'.depth ≤ 64) (q : Q (.bl (d.eqv d')) H) : rEqD K x y H Q :=
  ⟨d, d', hd, he, small_shaped h1 p1, small_shaped h2 p2, q⟩
end
section
variable {K : PySem.W.Frag} {H : Hp} {v x y : V} {d d' : PyData}
/-! ### lists of numbers, of texts, of sayings -/
theorem dp_strs (K : PySem.W.Frag) (H : Hp) : ∀ fs : List Str, DpAll K H (fs.map V.str) (fs.map PyData.str)
  | [] => .nil
  | x :: r => .cons (.str x) (dp_strs K H r)
theorem dp_ints (K : PySem.W.Frag) (H : Hp) : ∀ ns : List Int, DpAll K H (ns.map V.int) (ns.map PyData.int)
  | [] => .nil
  | x :: r => .cons (.int x) (dp_ints K H r)
theorem small_strs : ∀ fs : List Str, (∀ x ∈ fs, PyData.strOk x = true) → smallDs (fs.map PyData.str) = true
  | [], _ => rfl
  | x :: r, h => by
    rw [List.map_cons, smallDs, smallD, h x (List.mem_cons_self ..), small_strs r fun y m => h y (List.mem_cons_of_mem _ m)]
    rfl
theorem small_intL : ∀ ns : List Int, (∀ x ∈ ns, x.natAbs < 10 ^ 11) → smallDs (ns.map PyData.int) = true
  | [], _ => rfl
  | x :: r, h => by
    rw [List.map_cons, smallDs, smallD, decide_eq_true (h x (List.mem_cons_self ..)), small_intL r fun y m => h y (List.mem_cons_of_mem _ m)]
    rfl
theorem depth_strs : ∀ fs : List Str, PyData.depthAll (fs.map PyData.str) = 0
  | [] => rfl
  | x :: r => by rw [List.map_cons, PyData.depthAll, PyData.depth, depth_strs r]; rfl
theorem depth_intL : ∀ fs : List Int, PyData.depthAll (fs.map PyData.int) = 0
  | [] => rfl
  | x :: r => by rw [List.map_cons, PyData.depthAll, PyData.depth, depth_intL r]; rfl
theorem bulk_strs : ∀ fs : List Str, (∀ x ∈ fs, x.cps.size ≤ 20) → PyData.bulkAll (fs.map PyData.str) ≤ 21 * fs.length
  | [], _ => Nat.zero_le _
  | x :: r, h => by
    rw [List.map_cons, PyData.bulkAll, PyData.bulk, List.length_cons]
    have h1 := h x (List.mem_cons_self ..)
    have h2 := bulk_strs r fun y m => h y (List.mem_cons_of_mem _ m)
    omega
theorem bulk_intL : ∀ fs : List Int, PyData.bulkAll (fs.map PyData.int) = fs.length
  | [] => rfl
  | x :: r => by
    rw [List.map_cons, PyData.bulkAll, PyData.bulk, List.length_cons, bulk_intL r]
    omega
end
def Say.data : Say → PyData
  | .unk x => .tuple [.str "unknown", .str x]
  | .yes => .tuple [.str "yes"]
  | .no => .tuple [.str "no"]
  | .not a => .tuple [.str "not", a.data]
  | .bin k a b => .tuple [.str k.str, a.data, b.data]
/-- a name whose text is short -/
def okName (x : Str) : Prop := PyData.strOk x = true ∧ x.cps.size ≤ 20
theorem mk6_strOk : ∀ k : Mk6, PyData.strOk k.str = true := by
  intro k
  cases k <;> decide +kernel
theorem mk6_size : ∀ k : Mk6, k.str.cps.size ≤ 5 := by
  intro k
  cases k <;> decide +kernel
theorem SayAt.dp (K : PySem.W.Frag) {H : Hp} : ∀ {s : Say} {v : V}, SayAt H s v → Dp K H v s.data
  | .unk x, v, ⟨p, e, h⟩ => e ▸ .tup (sqT h) (.cons (.str _) (.cons (.str _) .nil))
  | .yes, v, ⟨p, e, h⟩ => e ▸ .tup (sqT h) (.cons (.str _) .nil)
  | .no, v, ⟨p, e, h⟩ => e ▸ .tup (sqT h) (.cons (.str _) .nil)
  | .not a, v, ⟨p, u, e, h, ha⟩ => e ▸ .tup (sqT h) (.cons (.str _) (.cons (SayAt.dp K ha) .nil))
  | .bin k a b, v, ⟨p, u, w, e, h, ha, hb⟩ => e ▸ .tup (sqT h) (.cons (.str _) (.cons (SayAt.dp K ha) (.cons (SayAt.dp K hb) .nil)))
theorem say_small : ∀ s : Say, (∀ x ∈ s.leaves, okName x) → smallD s.data = true
  | .unk x, h => by
    rw [Say.data, smallD, smallDs, smallDs, smallDs, smallD, smallD, (h x (List.mem_singleton.mpr rfl)).1]
    decide +kernel
  | .yes, h => by decide +kernel
  | .no, h => by decide +kernel
  | .not a, h => by
    rw [Say.data, smallD, smallDs, smallDs, smallDs, smallD, say_small a h]
    decide +kernel
  | .bin k a b, h => by
    rw [Say.data, smallD, smallDs, smallDs, smallDs, smallDs, smallD, mk6_strOk, say_small a fun x m => h x (List.mem_append_left _ m), say_small b fun x m => h x (List.mem_append_right _ m)]
    rfl
theorem say_depth : ∀ s : Say, s.data.depth = s.depth + 1
  | .unk x => rfl
  | .yes => rfl
  | .no => rfl
  | .not a => by
    rw [Say.data, PyData.depth, PyData.depthAll, PyData.depthAll, PyData.depthAll, PyData.depth, say_depth a]
    show max 0 (max (a.depth + 1) 0) + 1 = a.depth + 1 + 1
    omega
  | .bin k a b => by
    rw [Say.data, PyData.depth, PyData.depthAll, PyData.depthAll, PyData.depthAll, PyData.depthAll, PyData.depth, say_depth a, say_depth b]
    show max 0 (max (a.depth + 1) (max (b.depth + 1) 0)) + 1 = max a.depth b.depth + 1 + 1
    omega
theorem say_bulk : ∀ s : Say, (∀ x ∈ s.leaves, okName x) → s.data.bulk ≤ 40 * s.words
  | .unk x, h => by
    have h1 := (h x (List.mem_singleton.mpr rfl)).2
    show ((7 + 1) + ((x.cps.size + 1) + 0)) ≤ 40 * 1
    omega
  | .yes, h => by decide +kernel
  | .no, h => by decide +kernel
  | .not a, h => by
    have h1 := say_bulk a h
    show ((3 + 1) + ((a.data.bulk + 1) + 0)) ≤ 40 * (a.words + 1)
    omega
  | .bin k a b, h => by
    have h1 := say_bulk a fun x m => h x (List.mem_append_left _ m)
    have h2 := say_bulk b fun x m => h x (List.mem_append_right _ m)
    have h3 := mk6_size k
    show ((k.str.cps.size + 1) + ((a.data.bulk + 1) + ((b.data.bulk + 1) + 0))) ≤ 40 * (a.words + b.words + 1)
    omega
theorem SaysAt.dp (K : PySem.W.Frag) {H : Hp} : ∀ {ss : List Say} {vs : List V}, SaysAt H ss vs → DpAll K H vs (ss.map Say.data)
  | _, _, .nil => .nil
  | _, _, .cons a b => .cons (a.dp K) (b.dp K)
theorem says_small : ∀ ss : List Say, (∀ s ∈ ss, ∀ x ∈ s.leaves, okName x) → smallDs (ss.map Say.data) = true
  | [], _ => rfl
  | s :: r, h => by
    rw [List.map_cons, smallDs, say_small s (h s (List.mem_cons_self ..)), says_small r fun y m => h y (List.mem_cons_of_mem _ m)]
    rfl
theorem says_depth (n : Nat) : ∀ ss : List Say, (∀ s ∈ ss, s.depth ≤ n) → PyData.depthAll (ss.map Say.data) ≤ n + 1
  | [], _ => Nat.zero_le _
  | s :: r, h => by
    rw [List.map_cons, PyData.depthAll, say_depth]
    have h1 := h s (List.mem_cons_self ..)
    have h2 := says_depth n r fun y m => h y (List.mem_cons_of_mem _ m)
    omega
theorem says_bulk : ∀ ss : List Say, (∀ s ∈ ss, ∀ x ∈ s.leaves, okName x) → PyData.bulkAll (ss.map Say.data) ≤ 41 * wsum ss
  | [], _ => Nat.zero_le _
  | s :: r, h => by
    rw [List.map_cons, PyData.bulkAll]
    have h1 := say_bulk s (h s (List.mem_cons_self ..))
    have h2 := says_bulk r fun y m => h y (List.mem_cons_of_mem _ m)
    have h3 := words_pos s
    show _ ≤ 41 * (s.words + wsum r)
    omega
open Evl in
/-- as lc_src, where the test lays new objects -/
theorem lc_srcA {σ : L2.St} {H1 : Hp} {te : TE} {tt : TT} {vs : List Nat} {j n : Nat} {J : L2.It} {G : Hp → Prop} {Y : Nat → Hp → V → Hp → Prop} {Dl : Addr} {Qd : Hp → Prop} (w : L2.Walk J n G Y) (src : Nat → V)
    (hy : ∀ i H x H', i < n → Y i H x H' → H' = H ∧ x = src i) (f : Nat → Bool) (v : Nat → V) (hn : n ≤ 1000000) (hD : H1 Dl = none)
    (hG : ∀ H', Same H1 H' → G H') (hw : ∀ x, wipe ((wipe σ vs).set j (some x)) vs = wipe σ vs)
    (ht : ∀ i H' (R : Bool → Hp → Prop), i < n → Same H1 H' → (∀ H'', Same H' H'' → R (f i) H'') → tt ((wipe σ vs).set j (some (src i))) H' R)
    (he : ∀ i H' (R : VK), i < n → f i = true → Same H1 H' → (∀ H'', Same H' H'' → R (v i) H'') → te ((wipe σ vs).set j (some (src i))) H' R)
    (hd : ∀ H', Same H1 H' → H' Dl = some (.lst (given n f v)) → Qd H') :
    ∃ W : Nat → Nat → Hp → Prop, (∃ m, W 0 m (upd H1 Dl (.lst []))) ∧ ∀ i m H, W i m H →
      (J.stop i H ∧ Qd H) ∨ (J.go i H ∧ ∃ Nx : Hp → Prop, (∀ H', Nx H' → ∃ m', m' < m ∧ W (i + 1) m' H') ∧
        ∀ x H', J.yld i H x H' → gName j x (wipe σ vs) H' fun σ2 H2 => wipe σ2 vs = wipe σ vs ∧ tt σ2 H2 fun b H3 =>
          if b = true then te σ2 H3 fun y H4 => ∃ acc, H4 Dl = some (.lst acc) ∧ acc.length < sizeLine ∧ Nx (upd H4 Dl (.lst (acc ++ [y]))) else Nx H3) := by
  refine lc_it w (fun i H' => Same H1 H' ∧ H' Dl = some (.lst (given i f v))) ⟨Same.new hD _, upd_same⟩ (fun i H' _ p => hG H' p.1) ?_ fun H' p => hd H' p.1 p.2
  intro i x H H' hi p y
  obtain ⟨rfl, rfl⟩ := hy i H x H' hi y
  refine ⟨hw _, ht i H' _ hi p.1 fun H0 s0 => ?_⟩
  have p' : Same H1 H0 ∧ H0 Dl = some (.lst (given i f v)) := ⟨p.1.trans s0, s0 _ _ p.2⟩
  cases hf : f i with
  | false =>
    refine iteF ⟨p'.1, ?_⟩
    rw [given_no hf]
    exact p'.2
  | true =>
    refine iteT (he i H0 _ hi hf p'.1 fun H'' s => ⟨given i f v, s _ _ p'.2, ?_, ?_, ?_⟩)
    · have := given_len i f v
      rw [sizeLine_eq]
      omega
    · exact Same.put (p'.1.trans s) hD _
    · rw [given_yes hf]
      exact upd_same
def atName (x : Str) : Say → Bool
  | .unk y => decide (y = x) | _ => false
theorem filter_leaves (x : Str) : ∀ s : Say, (s.leaves.filter fun y => decide (y = x)).length = (s.all.filter (atName x)).length
  | .unk y => by
    show (([y] : List Str).filter fun y => decide (y = x)).length = (([.unk y] : List Say).filter (atName x)).length
    by_cases c : y = x <;> simp [List.filter, c, atName]
  | .yes => rfl
  | .no => rfl
  | .not a => filter_leaves x a
  | .bin k a b => by
    show ((a.leaves ++ b.leaves).filter _).length = ((Say.bin k a b :: (a.all ++ b.all)).filter _).length
    rw [List.filter_cons_of_neg (show ¬ atName x (.bin k a b) = true from Bool.false_ne_true), List.filter_append, List.filter_append, List.length_append, List.length_append, filter_leaves x a, filter_leaves x b]
theorem marks_le : ∀ s : Say, s.marks ≤ s.words
  | .unk x => Nat.zero_le _
  | .yes => Nat.zero_le _
  | .no => Nat.zero_le _
  | .not a => Nat.le_trans (marks_le a) (Nat.le_succ _)
  | .bin k a b => by
    have h1 := marks_le a
    have h2 := marks_le b
    show a.marks + b.marks + 1 ≤ a.words + b.words + 1
    omega
/-- repr of a new tuple of whole numbers -/
theorem rd_reprI {K : PySem.W.Frag} {H : Hp} {Q : VK} {p : Addr} (ns : List Int) (h : H p = some (.tup (ns.map V.int))) (hs : ∀ x ∈ ns, x.natAbs < 10 ^ 11) (hl : ns.length ≤ 1000000)
    (q : Q (.str (PyData.tuple (ns.map PyData.int)).shown) H) : rRepr K [.ref p] H Q := by
  refine rd_repr (.tup (sqT h) (dp_ints K H ns)) ?_ ?_ ?_ q
  · rw [smallD]; exact small_intL ns hs
  · rw [PyData.bulk, bulk_intL]; exact hl
  · rw [PyData.depth, depth_intL]; decide
theorem rd_repr1 {K : PySem.W.Frag} {H : Hp} {Q : VK} {i : Int} (hs : i.natAbs < 10 ^ 11) (q : Q (.str (PyData.int i).shown) H) : rRepr K [.int i] H Q := by
  refine rd_repr (.int i) ?_ ?_ ?_ q
  · rw [smallD]; exact decide_eq_true hs
  · exact Nat.zero_le _
  · exact Nat.zero_le _
theorem rd_reprS {K : PySem.W.Frag} {H : Hp} {Q : VK} {p : Addr} (fs : List Str) (h : H p = some (.tup (fs.map V.str))) (hs : ∀ x ∈ fs, okName x) (hl : fs.length ≤ 10000)
    (q : Q (.str (PyData.tuple (fs.map PyData.str)).shown) H) : rRepr K [.ref p] H Q := by
  refine rd_repr (.tup (sqT h) (dp_strs K H fs)) ?_ ?_ ?_ q
  · rw [smallD]; exact small_strs fs fun x m => (hs x m).1
  · rw [PyData.bulk]
    have := bulk_strs fs fun x m => (hs x m).2
    omega
  · rw [PyData.depth, depth_strs]; decide
theorem rd_same {K : PySem.W.Frag} {x : V} {A B : Prop} (q : A) : if decide (x = x) = true then A else B := rd_true rfl q
/-- two texts that are one: no difference -/
theorem rd_neq {x : V} {A B : Prop} (q : B) : if (!decide (x = x)) = true then A else B := by
  rw [decide_eq_true rfl]
  exact iteF q
end Gd

/-! # the program's exceptions -/
namespace Gd
open PySem PySem.Spec PyProof.Rows L2
section
variable {X : Cx} {o e : Expr} {es : List Expr} {to te : TE} {ta : TA} {f : Str} {p p' p1 p2 pos : Pos}
/-- D.__init__(self, ..), where D has none of its own and stands over ValueError -/
theorem pe_binit {x : Str} {D : Addr} {pl : Sem Bool} (hg : Gl X x) (hm : X.mg x = some (.ref D))
    (hS : PySem.W.specialIn X.K (.ref D) "__getattribute__" = some (some (.builtin "type.__getattribute__"))) (hR : PySem.W.readsIn X.K D (.type "type") = true)
    (vV : PySem.W.findCls X.K (.ref D) (.type "type") "__init__" = some (.val (.builtin "ValueError.__init__"))) (ha : PA X (e :: es) ta)
    (hdb : (x == ("__debug__" : Str)) = false := by decide)
    (hc : eval (.Call (.Attribute (.Name x p1) "__init__" p2) (e :: es) [] pos) X.env = (do
      let ov ← eval (.Name x p1) X.env
      standAt p2.atName
      let (f, first) ← holding [ov] (getMethod ov "__init__" pl)
      callWith pos f first (backTo pos (starEach (e :: es) X.env)) (backToKw pos (keywordEach [] X.env))) := by rfl)
    (he : starEach (e :: es) X.env = (false, eval e X.env) :: starEach es X.env := by rfl) (hpl : (backTo pos (starEach es X.env)).any (·.1) = false := by rfl) :
    PE X (.Call (.Attribute (.Name x p1) "__init__" p2) (e :: es) [] pos) (tVeI X.K ta) := by
  refine ⟨fun pins s σ H Q I h => ?_⟩
  refine PySem.W.methodCall_KW (ld_glob I hg hm ?_ hdb) hc
  refine PySem.W.method_cls I.kIn hS (PySem.W.cls_value I.kIn hR vV (by decide +kernel) ?_)
  show wpAny _ _ (callWith pos (Value.builtin "ValueError.__init__") [] (backTo pos (starEach (e :: es) X.env)) []) _ _ _
  refine PyProof.Rows.callWith_method1 (thn (ha.run pos pins _ σ H _ (I.tok _) h) fun us s1 ⟨vs, H1, I1, r1, a, C, ws, ev, hl, T, ea, q⟩ => ?_) he hpl
  subst ev
  cases r1 with
  | @cons _ u0 _ ur ra rw' =>
    obtain rfl : u0 = Value.ref a := ra
    have hlen : ur.length ≤ sizeLine := by
      rw [← Paired.length rw', sizeLine_eq]
      omega
    exact oinit_ok T I1 ea hlen fun s' J => ⟨.non, H1, J, rfl, q⟩
end
/-- an own __init__: the base's, then one field -/
def spInitX (C : Addr) (f : Str) : Sp := fun vs H Q _ => ∃ (a : Addr) (v : V), vs = [.ref a, v] ∧ H a = some (exo a C none) ∧
  ∀ dx, H dx = none → dx ≠ a → Q .non (upd (upd H dx (exd dx [(f, v)])) a (exo a C (some dx)))
section
variable {K : PySem.W.Frag} {σ : L2.St} {H : Hp} {Q : VK} {D : Ends} {ta : TA} {to te : TE} {f : Str}
theorem rd_vei (h : ta σ H fun vs H1 => ∃ (a C : Addr) (ws : List V), vs = .ref a :: ws ∧ ws.length ≤ 1000 ∧ OexC K C ∧ H1 a = some (exo a C none) ∧ Q .non H1) : tVeI K ta σ H Q := h
theorem rd_ost (h : te σ H fun y H1 => to σ H1 fun x H2 => ∃ a C : Addr, x = .ref a ∧ OexC K C ∧ PySem.W.findIn K (.ref C) f = some none ∧
  ((H2 a = some (exo a C none) ∧ ∀ dx, H2 dx = none → dx ≠ a → D.nx σ (upd (upd H2 dx (exd dx [(f, y)])) a (exo a C (some dx)))) ∨
    ∃ (dx : Addr) (fs : List (Str × V)), H2 a = some (exo a C (some dx)) ∧ H2 dx = some (exd dx fs) ∧ fs.length ≤ 900 ∧ D.nx σ (upd H2 dx (exd dx ((f, y) :: fs))))) : tOst K f to te D σ H := h
/-- raise C(v): what is known of the heap behind it -/
theorem rd_raise {C : Addr} {v : V} {X : XK} (h : ∀ d H', Same H H' → H d = none → H' d = some (.xd [(f, v)]) → X (.ref C) (some d) H') :
    ([v] : List V).length ≤ 1000 ∧ ∀ a, H a = none → spInitX C f (.ref a :: ([v] ++ [])) (upd H a (exo a C none))
      (fun u H2 => u = .non ∧ ∃ (d : Addr) (fs : List (Str × V)), H2 a = some (exo a C (some d)) ∧ H2 d = some (exd d fs) ∧ H d = none ∧ X (.ref C) (some d) (upd (del H2 a) d (.xd fs))) (fun _ _ _ => False) := by
  refine ⟨by show 1 ≤ 1000; decide, fun a na => ⟨a, v, rfl, upd_same, fun dx nd ne => ⟨rfl, dx, [(f, v)], upd_same, ?_, ?_, ?_⟩⟩⟩
  · rw [upd_ne ne, upd_same]
  · rw [upd_ne ne] at nd
    exact nd
  · rw [upd_ne ne] at nd
    refine h dx _ (fun b o e => ?_) nd upd_same
    have hb : b ≠ dx := ne_of_none e nd
    have ha : b ≠ a := ne_of_none e na
    rw [upd_ne hb, del_ne ha, upd_ne ha, upd_ne hb, upd_ne ha]
    exact e
theorem rd_mko {C : Addr} {sp : Sp} {dvs : List V} {X : XK} (h : ta σ H fun vs H1 => vs.length ≤ 1000 ∧ ∀ a, H1 a = none → sp (.ref a :: (vs ++ dvs)) (upd H1 a (exo a C none))
  (fun v H2 => v = .non ∧ ∃ (d : Addr) (fs : List (Str × V)), H2 a = some (exo a C (some d)) ∧ H2 d = some (exd d fs) ∧ H1 d = none ∧ X (.ref C) (some d) (upd (del H2 a) d (.xd fs))) (fun _ _ _ => False)) : tMkO C sp dvs ta σ H X := h
theorem rd_callS {sp : Sp} {E : L2.St → XK} (h : ta σ H fun vs H1 => sp vs H1 Q (E σ)) : tCallS sp E ta σ H Q := h
end
end Gd

/-! # a tuple so many times, none and once among them -/
namespace Gd
open PySem PySem.Spec PyProof.Rows L2
theorem tuple_mul0 (l : Addr) (items : Array Value) (n : Nat) (dd : Option Addr) (sl : Array (Option Value)) (x : Int) (u : Tok) (c0 : (decide (x < -(2 ^ 63)) || decide (x ≥ 2 ^ 63)) = false) (c1 : (items.isEmpty || x == 1) = false) (c2 : (decide (x ≤ 0) || items.isEmpty) = true) :
    Meets (Builtin.«tuple.__mul__» ⟨[.ref l, .int x u], []⟩) (fun _ R s => s.heap.get? l = some { cls := .type "tuple", dict := dd, data := .seq items n, slots := sl } ∧
      R (.ok (.ret (Value.ref s.heap.objs.size))) { s with heap := s.heap.push { cls := Value.type "tuple", data := Data.seq #[] }, toks := s.toks }) :=
  .of_wp fun prog w A R s h => by
    obtain ⟨hp, g, d, tk, os⟩ := s
    obtain ⟨hl, h⟩ := h
    have f1 := AutoSeq1.idx_int
    wp_walk using wpAny_loadPart' hl
    repeat (first
      | (refine wpAny_ite_false (decide_eq_false (by rw [c0]; exact Bool.false_ne_true)) ?_; wp_walk using wpAny_loadPart' hl)
      | (refine wpAny_ite_false (decide_eq_false (by rw [c1]; exact Bool.false_ne_true)) ?_; wp_walk using wpAny_loadPart' hl)
      | (refine wpAny_ite_true (decide_eq_true (by rw [c2])) ?_; wp_walk using wpAny_loadPart' hl))
    exact ⟨_, rfl, h⟩
theorem tuple_mul1 (l : Addr) (items : Array Value) (n : Nat) (dd : Option Addr) (sl : Array (Option Value)) (u : Tok) :
    Meets (Builtin.«tuple.__mul__» ⟨[.ref l, .int 1 u], []⟩) (fun _ R s => s.heap.get? l = some { cls := .type "tuple", dict := dd, data := .seq items n, slots := sl } ∧
      R (.ok (.ret (Value.ref l))) s) :=
  .of_wp fun prog w A R s h => by
    obtain ⟨hp, g, d, tk, os⟩ := s
    obtain ⟨hl, h⟩ := h
    have f1 := AutoSeq1.idx_int
    have c1 : (items.isEmpty || (1 : Int) == 1) = true := by rw [show ((1 : Int) == 1) = true from rfl, Bool.or_true]
    wp_walk using wpAny_loadPart' hl
    repeat (first
      | (refine wpAny_ite_false (decide_eq_false (by decide)) ?_; wp_walk using wpAny_loadPart' hl)
      | (refine wpAny_ite_true (decide_eq_true (by rw [c1])) ?_; wp_walk using wpAny_loadPart' hl))
    exact ⟨_, rfl, h⟩
def rRepA (K : PySem.W.Frag) : R2 := fun x y H Q => ∃ l k xs, x = .ref l ∧ y = .int k ∧ SqT K H l xs ∧ xs ≠ [] ∧ 0 ≤ k ∧ k ≤ 1000 ∧ xs.length ≤ 1000 ∧ (k = 1 → Q (.ref l) H) ∧ (k ≠ 1 → ∀ p, H p = none → Q (.ref p) (upd H p (.tup (List.replicate k.toNat xs).flatten)))
theorem op_repA {X : Cx} : OpR X (binaryOp .Mult) (rRepA X.K) := by
  intro pins s σ H x y v u Q I rx ry h
  obtain ⟨l, k, xs, rfl, rfl, hT, hne, h0, h2, hz, q1, q⟩ := h
  by_cases h2' : 2 ≤ k
  · exact op_repT pins s σ H _ _ v u Q I rx ry ⟨l, k, xs, rfl, rfl, hT, hne, h2', h2, hz, q (by omega)⟩
  cases rx
  obtain ⟨t, rfl⟩ := ry
  obtain ⟨its, r, ⟨⟨cls, dd, data, sl⟩, ho, hc, n, hd⟩, hs⟩ := I.tuple hT
  simp only at hc hd
  subst hc hd
  have hle : its.length = xs.length := r.length.symm
  have hn : its ≠ [] := fun e => hne (by
    rw [e] at hle
    exact List.eq_nil_of_length_eq_zero hle.symm)
  have hi : its.toArray.isEmpty = false := by
    cases its with
    | nil => exact absurd rfl hn
    | cons a b => rfl
  have c0 : (decide (k < -(2 ^ 63)) || decide (k ≥ 2 ^ 63)) = false := by
    rw [decide_eq_false (by omega), decide_eq_false (by omega)] <;> rfl
  by_cases hk : k = 1
  · subst hk
    refine wpAny_binaryOp_repeat_ref (T := "tuple") (U := "int") (by decide) ⟨_, ho, rfl⟩ (fun s' => typeIs_int s' 1 t) noFill_tuple_mul F.fills_int_mul F.slot_int_rmul repeat_tuple F.slot_int_index.lookup
      (call_meets F.slot_int_rmul (typeIs_int s 1 t) F.entry_int_rmul (F.args_int_rmul_2 _ _) (int_rmul_tuple 1 t l its.toArray n dd sl)
        ⟨ho, rfl, ⟨_, ho, rfl⟩, call_meets F.slot_tuple_mul ⟨_, ho, rfl⟩ F.entry_tuple_mul (F.args_tuple_mul_2 _ _) (tuple_mul1 l its.toArray n dd sl t) ⟨ho, ?_⟩⟩)
    exact ⟨.ref l, H, I, rfl, q1 rfl⟩
  · have hk0 : k = 0 := by omega
    subst hk0
    have c1 : (its.toArray.isEmpty || (0 : Int) == 1) = false := by
      rw [hi]
      rfl
    have c2 : (decide ((0 : Int) ≤ 0) || its.toArray.isEmpty) = true := by
      rw [decide_eq_true (Int.le_refl 0)]
      rfl
    refine wpAny_binaryOp_repeat_ref (T := "tuple") (U := "int") (by decide) ⟨_, ho, rfl⟩ (fun s' => typeIs_int s' 0 t) noFill_tuple_mul F.fills_int_mul F.slot_int_rmul repeat_tuple F.slot_int_index.lookup
      (call_meets F.slot_int_rmul (typeIs_int s 0 t) F.entry_int_rmul (F.args_int_rmul_2 _ _) (int_rmul_tuple 0 t l its.toArray n dd sl)
        ⟨ho, rfl, ⟨_, ho, rfl⟩, call_meets F.slot_tuple_mul ⟨_, ho, rfl⟩ F.entry_tuple_mul (F.args_tuple_mul_2 _ _) (tuple_mul0 l its.toArray n dd sl 0 t c0 c1 c2) ⟨ho, ?_⟩⟩)
    refine ⟨.ref s.heap.objs.size, _, I.laid (t' := s.toks) (o := .tup []) (fun b ob q => Heap.get?_push_of_some _ q) (Nat.le_refl _) ?_, rfl, q (by decide) _ (I.hok.fresh (Nat.le_refl _))⟩
    exact ⟨Nat.zero_le _, [], .nil, IsTup.new _ _⟩
theorem rep_one (v : V) : ∀ n : Nat, (List.replicate n [v]).flatten = List.replicate n v
  | 0 => rfl
  | n + 1 => by
    rw [List.replicate_succ, List.flatten_cons, rep_one v n]
    rfl
section
variable {K : PySem.W.Frag} {H : Hp} {Q : VK} {a b l : Addr} {xs ys : List V} {v : V} {k : Nat}
/-- (v,) * k: at least the tuple of k -/
theorem rd_rep1 (h : SqT K H l [v]) (hk : k ≤ 1000) (q : ∀ p H', Same H H' → SqT K H' p (List.replicate k v) → Q (.ref p) H') : rRepA K (.ref l) (.int (k : Int)) H Q := by
  refine ⟨l, k, [v], rfl, rfl, h, List.cons_ne_nil _ _, by omega, by omega, by show 1 ≤ 1000; decide, fun e => ?_, fun _ p np => ?_⟩
  · have e' : k = 1 := by omega
    subst e'
    exact q l H (Same.refl _) h
  · refine q p _ (Same.new np _) ?_
    rw [Int.toNat_natCast, rep_one]
    exact sqT upd_same
/-- one tuple behind another -/
theorem rd_catT (hx : SqT K H a xs) (hy : SqT K H b ys) (hn : xs ≠ []) (hz : xs.length + ys.length ≤ 1000000) (q : ∀ p H', Same H H' → SqT K H' p (xs ++ ys) → Q (.ref p) H') : rCatT K (.ref a) (.ref b) H Q := by
  refine ⟨a, b, xs, ys, rfl, rfl, hx, hy, hn, Nat.le_trans hz (by decide), fun e => ?_, fun _ p np => ?_⟩
  · subst e
    refine q a H (Same.refl _) ?_
    rw [List.append_nil]
    exact hx
  · exact q p _ (Same.new np _) (sqT upd_same)
end
theorem op_catTK {X : Cx} (K : PySem.W.Frag) (h : X.K = K := by rfl) : OpR X (binaryOp .Add) (rCatT K) := h ▸ op_catT
theorem op_repK {X : Cx} (K : PySem.W.Frag) (h : X.K = K := by rfl) : OpR X (binaryOp .Mult) (rRepA K) := h ▸ op_repA
theorem isiK {X : Cx} (K : PySem.W.Frag) (h : X.K = K := by rfl) : CallR X (.builtin "isinstance") (rIsi K) := h ▸ call_isi
theorem rd_isi {K : PySem.W.Frag} {H : Hp} {Q : VK} {x : V} {a n : String} {b : Bool} (ty : TyX K H x (.type a)) (h : kitB a n = some b) (q : Q (.bl b) H) : rIsi K [x, .ty n] H Q :=
  ⟨x, .ty n, .type a, .type n, b, rfl, .ty n, ty, kit_ty h, q⟩
theorem log2_small {i : Int} (h : i.natAbs < 10 ^ 40) : i.natAbs.log2 < 140 := by
  by_cases z : i.natAbs = 0
  · rw [z]; decide
  · exact (Nat.log2_lt z).mpr (Nat.lt_of_lt_of_le h (by decide))
theorem mulB_ok {i j : Int} (h1 : i.natAbs < 10 ^ 40) (h2 : j.natAbs < 10 ^ 40) : CMulB i j := by
  have a := log2_small h1
  have b := log2_small h2
  show i.natAbs.log2 + j.natAbs.log2 < 100000000
  omega
end Gd

/-! # whole numbers in rows; common measures -/
namespace Gd
open PySem PySem.Spec PyProof.Rows L2
def rLcm : List V → Hp → VK → Prop := fun vs H Q => ∃ a b : Int, vs = [.int a, .int b] ∧ a.natAbs < 2 ^ 64 ∧ b.natAbs < 2 ^ 64 ∧ Q (.int ((Nat.lcm a.natAbs b.natAbs : Nat) : Int)) H
theorem cr_lcm {X : Cx} : CallR X (.builtin "math.lcm") rLcm := by
  intro pins s σ H vs us Q I r h
  obtain ⟨a, b, rfl, ha, hb, q⟩ := h
  obtain ⟨t, u, rfl⟩ := Vals.int2 r
  exact PySem.W.mc_lcm ha hb fun _ => ⟨.int _, H, I.tok _, ⟨_, rfl⟩, q⟩
theorem tup_indexK {X : Cx} (K : PySem.W.Frag) (h : X.K = K := by rfl) : MtR X "tuple.index" (fun x xs H Q => ∃ p, ∃ ys : List Str, ∃ z j, x = .ref p ∧ xs = [.str z] ∧ SqT K H p (ys.map V.str) ∧ ys[j]? = some z ∧ (∀ m, m < j → ys[m]? ≠ some z) ∧ Q (.int (j : Nat)) H) := h ▸ mt_tup_index
theorem rd_aug {i : Nat} {te : TE} {ti : TIp} {D : Ends} {σ : L2.St} {H : Hp} {x : V} (e : σ[i]? = some (some x)) (h : te σ H fun y H1 => ti x y H1 fun z H2 => D.nx (σ.set i (some z)) H2) : tAug i te ti D σ H := ⟨x, e, h⟩
theorem rd_ipI {f : Int → Int → Int} {i j : Int} {H : Hp} {Q : VK} (q : Q (.int (f i j)) H) : ipI f (.int i) (.int j) H Q := ⟨i, j, rfl, rfl, q⟩
theorem wint_at {xs : List Int} {i : Nat} {x : V} (h : (xs.map V.int)[i]? = some x) : ∃ n, x = .int n ∧ xs[i]? = some n := by
  rw [List.getElem?_map] at h
  cases e : xs[i]? with
  | none => rw [e] at h; cases h
  | some n => rw [e] at h; exact ⟨n, (Option.some.inj h).symm, rfl⟩
theorem wint_get {xs : List Int} {i : Nat} (hi : i < xs.length) : (xs.map V.int).getD i .non = V.int (xs.getD i 0) := by
  rw [List.getD_eq_getElem?_getD, List.getD_eq_getElem?_getD, List.getElem?_map, List.getElem?_eq_getElem hi]
  rfl
theorem wzip_at (f : Int → Int → Int) {xs ys : List Int} {i : Nat} {x y : Int} (hx : xs[i]? = some x) (hy : ys[i]? = some y) : (List.zipWith f xs ys).getD i 0 = f x y := by
  rw [List.getD_eq_getElem?_getD, List.getElem?_zipWith, hx, hy]
  rfl
theorem wrange (l : List Int) : (List.range l.length).map (fun i => V.int (l.getD i 0)) = l.map V.int := by
  refine List.ext_getElem? fun i => ?_
  rw [List.getElem?_map, List.getElem?_map]
  by_cases h : i < l.length
  · rw [List.getElem?_range h, List.getElem?_eq_getElem h]
    show some (V.int (l.getD i 0)) = some (V.int l[i])
    rw [List.getD_eq_getElem?_getD, List.getElem?_eq_getElem h]
    rfl
  · rw [List.getElem?_eq_none (by rw [List.length_range]; omega), List.getElem?_eq_none (by omega)]
    rfl
theorem wrange_zip (f : Int → Int → Int) {xs ys : List Int} (h : xs.length = ys.length) : (List.range xs.length).map (fun i => V.int ((List.zipWith f xs ys).getD i 0)) = (List.zipWith f xs ys).map V.int := by
  have e : (List.zipWith f xs ys).length = xs.length := by rw [List.length_zipWith, h, Nat.min_self]
  rw [← e]
  exact wrange _
open Evl in
theorem given_all (n : Nat) (l : List Int) (h : l.length = n) : given n (fun _ => true) (fun i => V.int (l.getD i 0)) = l.map V.int := by
  unfold given
  rw [List.filter_eq_self.mpr (fun _ _ => rfl), ← h]
  exact wrange l
/-! ### pairs in a row: fractions -/
inductive PrsAt (K : PySem.W.Frag) (H : Hp) : List (Int × Int) → List V → Prop
  | nil : PrsAt K H [] []
  | cons {a b : Int} {p : Addr} {ps : List (Int × Int)} {vs : List V} : SqT K H p [.int a, .int b] → PrsAt K H ps vs → PrsAt K H ((a, b) :: ps) (.ref p :: vs)
section
variable {K : PySem.W.Frag} {H H' : Hp}
theorem PrsAt.keep (h : ∀ p xs, SqT K H p xs → SqT K H' p xs) : ∀ {ps : List (Int × Int)} {vs : List V}, PrsAt K H ps vs → PrsAt K H' ps vs
  | _, _, .nil => .nil
  | _, _, .cons a b => .cons (h _ _ a) (b.keep h)
theorem PrsAt.length : ∀ {ps : List (Int × Int)} {vs : List V}, PrsAt K H ps vs → ps.length = vs.length
  | _, _, .nil => rfl
  | _, _, .cons a b => congrArg Nat.succ b.length
theorem PrsAt.get : ∀ {ps : List (Int × Int)} {vs : List V} {i : Nat} {v : V}, PrsAt K H ps vs → vs[i]? = some v → ∃ a b p, ps[i]? = some (a, b) ∧ v = .ref p ∧ SqT K H p [.int a, .int b]
  | _, _, i, v, .nil, e => by simp at e
  | _, _, 0, v, .cons a b, e => by
    obtain rfl := Option.some.inj e
    exact ⟨_, _, _, rfl, rfl, a⟩
  | _, _, i + 1, v, .cons a b, e => b.get (i := i) e
theorem PrsAt.append : ∀ {ps qs : List (Int × Int)} {vs ws : List V}, PrsAt K H ps vs → PrsAt K H qs ws → PrsAt K H (ps ++ qs) (vs ++ ws)
  | _, _, _, _, .nil, b => b
  | _, _, _, _, .cons a r, b => .cons a (r.append b)
end
section
variable {K : PySem.W.Frag} {σ : L2.St} {H : Hp} {g : TG} {tb : TS} {a b : Addr} {xs ys : List V}
theorem forZ {Nx : L2.St → Hp → Prop} {Rt : VK} (hl : xs.length = ys.length) (Pv : Nat → L2.St → Hp → Prop) (h0 : Pv 0 σ H) (hq : ∀ i σ H, Pv i σ H → SqT K H a xs ∧ SqT K H b ys)
    (hs : ∀ (i : Nat) (x y : V) (T : Addr) (σ : L2.St) (H : Hp), xs[i]? = some x → ys[i]? = some y → Pv i σ H → H T = none → g (.ref T) σ (upd H T (.tup [x, y])) fun σ2 H2 => tb { nx := Pv (i + 1), rt := Rt, ct := Pv (i + 1), bk := Nx } σ2 H2) (hd : ∀ σ H, Pv xs.length σ H → Nx σ H) :
    ∃ W : Nat → Nat → L2.St → Hp → Prop, (∃ m, W 0 m σ H) ∧ ∀ i m σ H, W i m σ H →
      ((RZ.ItzT K a b).stop i H ∧ Nx σ H) ∨ ((RZ.ItzT K a b).go i H ∧ ∃ N : L2.St → Hp → Prop, (∀ σ' H', N σ' H' → ∃ m', m' < m ∧ W (i + 1) m' σ' H') ∧ ∀ v H', (RZ.ItzT K a b).yld i H v H' → g v σ H' fun σ2 H2 => tb { nx := N, rt := Rt, bk := Nx, ct := N } σ2 H2) :=
  RZ.for_zipT (D := { nx := Nx, rt := Rt }) hl Pv h0 hq hs hd
end
/-! ### a tuple that was just made from a list: its object is known -/
theorem tuple_frzK {X : Cx} (K : PySem.W.Frag) (hK : X.K = K := by rfl) : CallR X (.type "tuple") (fun xs H Q => ∃ p ys, xs = [.ref p] ∧ SqL K H p ys ∧ ∀ (l : Addr) (ob : Obj), H l = none → ob.dict = none → Q (.ref l) (upd H l (.frz ob (.tup ys)))) := by
  subst hK
  intro pins s σ H xs us Q I r h
  obtain ⟨p, ys, rfl, hq, q⟩ := h
  obtain ⟨u, rfl, rx⟩ := vals1 r
  cases rx
  obtain ⟨its, r', pl, hz⟩ := I.list hq
  have hlen := r'.length
  refine call_tuple_list pl.isList (fun h' kp => ?_) (by simp only [List.size_toArray] <;> omega)
  have I1 : Inv X pins σ H { s with heap := h' } := I.kept (t' := s.toks) kp
  have hget : (h'.push { cls := .type "tuple", data := .seq its.toArray }).get? h'.objs.size = some { cls := .type "tuple", data := .seq its.toArray } := by heap_get
  have I2 : Inv X pins σ (upd H h'.objs.size (.frz { cls := .type "tuple", data := .seq its.toArray } (.tup ys))) { s with heap := h'.push { cls := .type "tuple", data := .seq its.toArray } } :=
    I1.laid (t' := s.toks) (fun b o e => Heap.get?_push_of_some _ e) (Nat.le_refl _) (show ObjOk X.prog X.w _ _ _ (.frz { cls := .type "tuple", data := .seq its.toArray } (.tup ys)) from ⟨hget, hz, its, r', IsTup.new _ _⟩)
  exact ⟨.ref h'.objs.size, _, I2, rfl, q _ _ (I1.hok.fresh (Nat.le_refl _)) rfl⟩
def tBMF (r : V → List V → Hp → VK → Prop) (to : TE) (t : TA) : TE := fun σ H Q => to σ H fun x H1 => (∃ (a : Addr) (ob : Obj) (xs : List V), x = .ref a ∧ H1 a = some (.frz ob (.tup xs)) ∧ ob.dict = none) ∧ t σ H1 fun xs H2 => r x xs H2 Q
theorem pe_bmF {X : Cx} {o e : Expr} {es : List Expr} {to : TE} {t : TA} {name : Str} {apos cpos : Pos} {id : String} {r : V → List V → Hp → VK → Prop} (pa : PlainAttrs "tuple") (slot : Slot "tuple" name id) (hty : typeOf (.builtin id) = pure (.type "method_descriptor")) (hm : MtR X id r) (ho : PE X o to) (ha : PA X (e :: es) t)
    (hbase : attributeBase o name X.env (eval o X.env) = eval o X.env := by rfl)
    (hfew : ((backTo cpos (starEach (e :: es) X.env)).all (fun x => !x.1) && (backToKw cpos (keywordEach [] X.env)).all (fun x => x.1.isSome)
      && decide ((e :: es).length + ([] : List Keyword).length + (if ([] : List Keyword).isEmpty then 0 else 1) < 30)) = true := by rfl)
    (hline : (apos.endLine == cpos.line) = true := by rfl) (hs : starEach (e :: es) X.env = (false, eval e X.env) :: starEach es X.env := by rfl) (hplain : (backTo cpos (starEach es X.env)).any (·.1) = false := by rfl) :
    PE X (.Call (.Attribute o name apos) (e :: es) [] cpos) (tBMF r to t) := by
  refine ⟨fun pins s σ H Q I h => ?_⟩
  refine wpAny_Call_method_late hbase hfew hline rfl (thn (ho.run pins s σ H _ I h) fun v s1 ⟨x, H1, I1, r1, ⟨a, ob, ys, ex, ea, hd⟩, q1⟩ => ?_)
  subst ex
  obtain rfl : v = Value.ref a := r1
  obtain ⟨e0, _, its, _, ⟨o2, e2, c2, _⟩⟩ := (show ObjOk X.prog X.w H1 s1.heap a (.frz ob (.tup ys)) from I1.hok a _ ea)
  rw [e0] at e2
  obtain rfl := Option.some.inj e2
  refine ⟨"tuple", id, pa, slot, hty, ⟨ob, e0, c2⟩, (fun b e => by cases e; exact ⟨ob, e0, hd⟩), ?_⟩
  have hA := ha.run cpos pins s1 σ H1 _ I1 q1
  rw [hs] at hA ⊢
  refine Calls.callWith_builtin (by show (false || (backTo cpos (starEach es X.env)).any (·.1)) = false; rw [hplain] <;> rfl) (Calls.evalArgs_plain ?_)
  exact thn hA fun us s2 ⟨vs, H2, I2, r2, q2⟩ => hm pins s2 σ H2 (.ref a) vs _ us Q I2 rfl r2 q2
theorem rd_bmF {r : V → List V → Hp → VK → Prop} {to : TE} {t : TA} {σ : L2.St} {H : Hp} {Q : VK} (h : to σ H fun x H1 => (∃ (a : Addr) (ob : Obj) (xs : List V), x = .ref a ∧ H1 a = some (.frz ob (.tup xs)) ∧ ob.dict = none) ∧ t σ H1 fun xs H2 => r x xs H2 Q) : tBMF r to t σ H Q := h
end Gd

/-! # zip of a list and a tuple -/
namespace Gd
open PySem PySem.Spec PyProof.Rows L2
/-- the list at a and the tuple at b, as they stand at each turn, the items in new pairs -/
def ItzM (K : PySem.W.Frag) (a b : Addr) : It where
  go i H := ∃ (xs ys : List V) (x y : V), SqL K H a xs ∧ SqT K H b ys ∧ xs[i]? = some x ∧ ys[i]? = some y
  yld i H v H' := ∃ (T : Addr) (x y : V), v = .ref T ∧ H T = none ∧ H' = upd H T (.tup [x, y]) ∧ (∀ xs, SqL K H a xs → xs[i]? = some x) ∧ ∀ ys, SqT K H b ys → ys[i]? = some y
  stop i H := ∃ xs ys : List V, SqL K H a xs ∧ SqT K H b ys ∧ i = min xs.length ys.length
/-- the five cells of a zip laid at N, over what stood below -/
def znM (N a b : Addr) : Nat → Heap → Prop := fun i h => IsZip h (N + 4) (N + 2) (N + 3) .none ∧ IsTupOf2 h (N + 2) (.ref N) (.ref (N + 1)) ∧ (∃ u v, IsTupOf2 h (N + 3) u v) ∧ h.IsListIter N a i ∧ h.IsTupleIter (N + 1) b i
theorem five {N c : Addr} (h : c ∈ ([N + 4, N + 2, N + 3, N, N + 1] : List Addr)) : c = N + 4 ∨ c = N + 2 ∨ c = N + 3 ∨ c = N ∨ c = N + 1 := by simpa using h
theorem four {N c : Addr} (h : c ∈ ([N + 4, N + 3, N, N + 1] : List Addr)) : c ∈ ([N + 4, N + 2, N + 3, N, N + 1] : List Addr) := by
  simp only [List.mem_cons, List.not_mem_nil, or_false] at h ⊢
  rcases h with h | h | h | h
  · exact .inl h
  · exact .inr (.inr (.inl h))
  · exact .inr (.inr (.inr (.inl h)))
  · exact .inr (.inr (.inr (.inr h)))
theorem turn_zipM {P : Program} {w : World} {K : PySem.W.Frag} {elts : List Expr} {kk : Nat} {tpos : Pos} {N a b : Addr} (ha : a < N) (hb : b < N) :
    Turn P w K (.Tuple elts kk tpos) (ItzM K a b) [N + 4, N + 2, N + 3, N, N + 1] (N + 4) (znM N a b) where
  mem := List.mem_cons_self ..
  obj := by
    rintro i h ⟨hz, hT, ⟨u, v, hO⟩, ⟨o1, e1, _, d1⟩, ⟨o2, e2, _, d2⟩⟩ c hc
    rcases five hc with rfl | rfl | rfl | rfl | rfl
    · exact ⟨_, hz, fun v q => nomatch q⟩
    · exact ⟨_, hT, fun v q => nomatch q⟩
    · exact ⟨_, hO, fun v q => nomatch q⟩
    · exact ⟨o1, e1, fun v q => by rw [d1] at q; cases q⟩
    · exact ⟨o2, e2, fun v q => by rw [d2] at q; cases q⟩
  keep := by
    rintro i h h' ⟨hz, hT, ⟨u, v, hO⟩, h1, h2⟩ k
    exact ⟨k _ (by simp) _ hz, k _ (by simp) _ hT, ⟨u, v, k _ (by simp) _ hO⟩, h1.at fun o q => k _ (by simp) o q, h2.at fun o q => k _ (by simp) o q⟩
  item := by
    rintro X rfl rfl rfl hc i pins s σ H E I hf ⟨hz, hT, hO, h1, h2⟩ ⟨xs, ys, x, y, hx, hy, ex, ey⟩
    obtain ⟨its, rv, p1, _⟩ := I.list hx
    obtain ⟨jts, rw', p2, _⟩ := I.tuple hy
    obtain ⟨u, hu, ru⟩ := rv.get ex
    obtain ⟨v, hv, rv2⟩ := rw'.get ey
    have hh : X.A.in1.handled = none := I.ok.hd hc
    have S : ZipSep2 (N + 4) (N + 2) (N + 3) N (N + 1) [N, a] [N + 1, b] := zip_sep2 (fp1 := [a]) (fp2 := [b]) (fun c hc => by rw [List.mem_singleton.mp hc]; exact ha) (fun c hc => by rw [List.mem_singleton.mp hc]; exact hb)
    have D1 := Draws.list (prog := X.prog) (w := X.w) (A := X.A.in1) hh N a (Nat.ne_of_lt ha) its.toArray
    have D2 := Draws.tuple (prog := X.prog) (w := X.w) (A := X.A.in1) hh (N + 1) b (Nat.ne_of_lt (Nat.lt_succ_of_lt hb)) jts.toArray
    have G := GoesN.zip2 (elts := elts) (x1 := kk) (pos := tpos) S D1 D2
    have li : i < its.length := (List.getElem?_eq_some_iff.mp hu).1
    have lj : i < jts.length := (List.getElem?_eq_some_iff.mp hv).1
    have IT : s.heap.IsTuple b jts.toArray := p2
    refine G.goes i s _ E (by rw [List.size_toArray, List.size_toArray]; omega) ⟨hz, hT, hO, ⟨h1, p1.isList⟩, ⟨h2, IT⟩⟩ fun r h' tk hY st hk _ => ?_
    obtain ⟨T, x', y', rfl, hnew, hx', hy', hTT⟩ := hY
    have exu : x' = u := Option.some.inj ((show some x' = some u by rw [← hx', ← hu]; simp))
    have eyv : y' = v := Option.some.inj ((show some y' = some v by rw [← hy', ← hv]; simp))
    subst exu
    subst eyv
    have new : ObjOk X.prog X.w (upd H T (.tup [x, y])) h' T (.tup [x, y]) := ⟨by show 2 ≤ sizeLine; decide, [x', y'], .cons ru (.cons rv2 .nil), hTT⟩
    have J := I.turnedNew (t' := tk) (ch := [N + 4, N + 2, N + 3, N, N + 1]) (fun c o hcc q => hk c o (fun z => hcc (four z)) q) hf hnew new
    refine ⟨.ref T, _, J, rfl, ⟨T, x, y, rfl, I.hok.fresh hnew, rfl, fun l hl => by rw [I.list_inj hl hx]; exact ex, fun l hl => by rw [I.tuple_inj hl hy]; exact ey⟩, ⟨st.1, st.2.1, st.2.2.1, st.2.2.2.1.1, st.2.2.2.2.1⟩, fun c hcm => ?_⟩
    have hlt : c < s.heap.objs.size := by
      obtain ⟨o1, e1, _⟩ := h1
      obtain ⟨o2, e2, _⟩ := h2
      obtain ⟨u0, v0, e3⟩ := hO
      rcases five hcm with rfl | rfl | rfl | rfl | rfl
      · exact Heap.lt_size hz
      · exact Heap.lt_size hT
      · exact Heap.lt_size e3
      · exact Heap.lt_size e1
      · exact Heap.lt_size e2
    rw [upd_ne (Nat.ne_of_lt (Nat.lt_of_lt_of_le hlt hnew))]
    exact (hf c hcm).1
  done := by
    rintro X rfl rfl rfl hc i pins s σ H E I hf ⟨hz, hT, hO, h1, h2⟩ ⟨xs, ys, hx, hy, rfl⟩
    obtain ⟨its, rv, p1, _⟩ := I.list hx
    obtain ⟨jts, rw', p2, _⟩ := I.tuple hy
    have hh : X.A.in1.handled = none := I.ok.hd hc
    have S : ZipSep2 (N + 4) (N + 2) (N + 3) N (N + 1) [N, a] [N + 1, b] := zip_sep2 (fp1 := [a]) (fp2 := [b]) (fun c hc => by rw [List.mem_singleton.mp hc]; exact ha) (fun c hc => by rw [List.mem_singleton.mp hc]; exact hb)
    have D1 := Draws.list (prog := X.prog) (w := X.w) (A := X.A.in1) hh N a (Nat.ne_of_lt ha) its.toArray
    have D2 := Draws.tuple (prog := X.prog) (w := X.w) (A := X.A.in1) hh (N + 1) b (Nat.ne_of_lt (Nat.lt_succ_of_lt hb)) jts.toArray
    have G := GoesN.zip2 (elts := elts) (x1 := kk) (pos := tpos) S D1 D2
    have IT : s.heap.IsTuple b jts.toArray := p2
    have e : min xs.length ys.length = min its.toArray.size jts.toArray.size := by rw [List.size_toArray, List.size_toArray, rv.length, rw'.length]
    rw [e] at h1 h2
    exact G.stops s _ E ⟨hz, hT, hO, ⟨h1, p1.isList⟩, ⟨h2, IT⟩⟩ fun h' tk hk _ => I.turnedL (t' := tk) (ch := [N + 4, N + 2, N + 3, N, N + 1]) (fun c o hcc q => hk c o (fun z => hcc (four z)) q) hf
  self := fun A i s Q E st h => wpAny_pyIter_zip st.1 h
def iZipM (K : PySem.W.Frag) (ta : TA) : TI := fun σ H R => ta σ H fun vs H1 => ∃ (a b : Addr) (xs ys : List V), vs = [.ref a, .ref b] ∧ SqL K H1 a xs ∧ SqT K H1 b ys ∧ R (ItzM K a b) H1
theorem pi_zipM {X : Cx} {e e2 : Expr} {ta : TA} {p pos tpos : Pos} {elts : List Expr} {kk : Nat} (hg : Gl X "zip") (hm : X.mg "zip" = none) (ha : PA X [e, e2] ta)
    (hs : starEach [e, e2] X.env = (false, eval e X.env) :: starEach [e2] X.env := by rfl) (hpl : (backTo pos (starEach [e2] X.env)).any (·.1) = false := by rfl) :
    PI X (.Tuple elts kk tpos) (.Call (.Name "zip" p) [e, e2] [] pos) (iZipM X.K ta) := by
  refine ⟨fun pins s σ H R I h => ?_⟩
  refine Call_ (ld_blt I hg hm PyProof.Rows.boot_zip (PyProof.Rows.callWith_type1 (thn (ha.run pos pins s σ H _ I h) fun us s1 hh => ?_) hs hpl))
  obtain ⟨vs, H1, I1, r1, a, b, xs, ys, rfl, hqx, hqy, q⟩ := hh
  obtain ⟨u, v, rfl, r, r'⟩ := vals2 r1
  cases r
  cases r'
  obtain ⟨its, rv, p1, _⟩ := I1.list hqx
  obtain ⟨jts, rv2, p2, _⟩ := I1.tuple hqy
  obtain ⟨o2, ho2, _⟩ := id p2
  have IT : s1.heap.IsTuple b jts.toArray := p2
  have f5 : ∀ c, c ∈ ([s1.heap.objs.size + 4, s1.heap.objs.size + 2, s1.heap.objs.size + 3, s1.heap.objs.size, s1.heap.objs.size + 1] : List Addr) → FpOk X pins H1 c := fun c hcm => by
    have hle : s1.heap.objs.size ≤ c := by
      rcases five hcm with rfl | rfl | rfl | rfl | rfl
      · exact Nat.le_add_right _ _
      · exact Nat.le_add_right _ _
      · exact Nat.le_add_right _ _
      · exact Nat.le_refl _
      · exact Nat.le_add_right _ _
    exact I1.fpOk hle (I1.hok.fresh hle)
  refine zip_begins2 (begins_list a its.toArray) (begins_tuple b jts.toArray) p1.isList IT fun h' hz hT hO g1 g2 _ hk => wpAny_pyIter_zip hz ?_
  exact ⟨s1.heap.objs.size + 4, _, _, _, H1, rfl, I1.kept (t' := s1.toks) hk, turn_zipM p1.lt (Heap.lt_size ho2), ⟨hz, hT, ⟨_, _, hO⟩, ⟨_, g1, rfl, rfl⟩, ⟨_, g2, rfl, rfl⟩⟩, f5, q⟩
section
variable {K : PySem.W.Frag} {σ : L2.St} {H H1 : Hp} {ts : TA} {te : TE} {vs : List Nat} {a b : Addr} {xs ys : List V} {i1 i2 : Nat}
theorem rd_iZM {R : It → Hp → Prop} (h : ts σ H fun vs H1 => ∃ (a b : Addr) (xs ys : List V), vs = [.ref a, .ref b] ∧ SqL K H1 a xs ∧ SqT K H1 b ys ∧ R (ItzM K a b) H1) : iZipM K ts σ H R := h
theorem rd_atM {P : Addr → Addr → Prop} (h : SqL K H a xs) (h' : SqT K H b ys) (q : P a b) : ∃ (c d : Addr) (zs ws : List V), [V.ref a, V.ref b] = [.ref c, .ref d] ∧ SqL K H c zs ∧ SqT K H d ws ∧ P c d := ⟨a, b, xs, ys, rfl, h, h', q⟩
theorem walk_zipM {n : Nat} (hn : n = min xs.length ys.length) : Walk (ItzM K a b) n (fun H => SqL K H a xs ∧ SqT K H b ys)
    (fun i H v H' => ∃ (T : Addr) (x y : V), v = .ref T ∧ H T = none ∧ H' = upd H T (.tup [x, y]) ∧ xs[i]? = some x ∧ ys[i]? = some y) := by
  subst hn
  refine ⟨fun i _ hi q => ?_, fun _ q => ⟨xs, ys, q.1, q.2, rfl⟩, fun i H v H' _ q y => ?_⟩
  · have h1 : i < xs.length := by omega
    have h2 : i < ys.length := by omega
    exact ⟨xs, ys, xs[i], ys[i], q.1, q.2, List.getElem?_eq_getElem h1, List.getElem?_eq_getElem h2⟩
  · obtain ⟨T, x, z, h1, h2, h3, h4, h5⟩ := y
    exact ⟨T, x, z, h1, h2, h3, h4 xs q.1, h5 ys q.2⟩
open Evl in
theorem lc_zipM {Dl : Addr} {Qd : Hp → Prop} (v : Nat → V) (hl : xs.length = ys.length) (hn : xs.length ≤ 1000000) (hD : H1 Dl = none)
    (hx : H1 a = some (.lst xs)) (hy : SqT K H1 b ys) (hw : ∀ x y, wipe (((wipe σ vs).set i1 (some x)).set i2 (some y)) vs = wipe σ vs)
    (he : ∀ i x y H' (R : VK), xs[i]? = some x → ys[i]? = some y → Same H1 H' → (∀ H'', Same H' H'' → R (v i) H'') →
      te (((wipe σ vs).set i1 (some x)).set i2 (some y)) H' R)
    (hd : ∀ H', Same H1 H' → H' Dl = some (.lst ((List.range xs.length).map v)) → Qd H') :
    ∃ W : Nat → Nat → Hp → Prop, (∃ m, W 0 m (upd H1 Dl (.lst []))) ∧ ∀ i m H, W i m H →
      ((ItzM K a b).stop i H ∧ Qd H) ∨ ((ItzM K a b).go i H ∧ ∃ Nx : Hp → Prop, (∀ H', Nx H' → ∃ m', m' < m ∧ W (i + 1) m' H') ∧
        ∀ x H', (ItzM K a b).yld i H x H' → gTup K 2 (gCons (gName i1) (gCons (gName i2) gNil)) x (wipe σ vs) H' fun σ2 H2 => wipe σ2 vs = wipe σ vs ∧ tYes σ2 H2 fun b H3 =>
          if b = true then te σ2 H3 fun y H4 => ∃ acc, H4 Dl = some (.lst acc) ∧ acc.length < sizeLine ∧ Nx (upd H4 Dl (.lst (acc ++ [y]))) else Nx H3) := by
  refine lc_it (walk_zipM (n := xs.length) (xs := xs) (ys := ys) (by omega)) (fun i H' => Same H1 H' ∧ H' Dl = some (.lst ((List.range i).map v)))
    ⟨Same.new hD _, upd_same⟩ (fun i H' _ p => ⟨sqL (p.1 _ _ hx), p.1.seqT hy⟩) ?_ fun H' p => hd H' p.1 p.2
  rintro i z H H' hi ⟨s, e⟩ ⟨T, x, y, rfl, nT, rfl, ex, ey⟩
  have s' : Same H1 (upd H T (.tup [x, y])) := s.trans (Same.new nT _)
  have nDT : Dl ≠ T := ne_of_none e nT
  refine rd_gtup (xs := [x, y]) (sqT upd_same) rfl (rd_gcons (rd_gname (rd_gcons (rd_gname (rd_gnil ⟨hw x y, ?_⟩)))))
  refine rd_yes (iteT (he i x y _ _ ex ey s' fun H'' s'' => ⟨(List.range i).map v, s'' _ _ (by rw [upd_ne nDT]; exact e), ?_, ?_, ?_⟩))
  · rw [List.length_map, List.length_range, sizeLine_eq]
    omega
  · exact Same.put (s'.trans s'') hD _
  · rw [upd_same, List.range_succ, List.map_append]
    rfl
end
end Gd

/-! # super().__init__(..) in an own exception over another own one -/
namespace Gd
open PySem PySem.Spec PyProof.Rows L2
/-- a def that closes over its class and nothing else -/
structure SupScope (N P : List Str) (sc : Scope) : Prop where
  kd : sc.kind = .function
  c0 : sc.isCoroutine = false
  g0 : sc.isGenerator = false
  nd : N.Nodup
  fst : N.take P.length = P
  loc : ∀ x ∈ P, sc.names.lookup x = some .local
  noc : ∀ y ∈ sc.names, y.2 ≠ .cell
  one : ∀ y ∈ sc.names, y.2 = .free → y.1 = "__class__"
  sup : sc.names.lookup ("super" : Str) = some .globalImplicit
  cls : sc.names.lookup ("__class__" : Str) = some .free
/-- such a def as it stands behind the top: its cell holds the class at C -/
structure SupFun (P : Program) (K : PySem.W.Frag) (C : Addr) (qual : Str) (st : Stmt) (f : Addr) (fd : FuncData) : Prop where
  ex : ∃ (oc : Value) (od : Option Addr) (kV dc pm : Value) (an : Option Addr) (cda cc : Addr) (ct : Value) (sl : Array (Option Value)),
    fd = PySem.W.ksFn "__init__" qual (defArgs st) (defBody st) (defScope st) .none kV dc pm an (.ref cda) ct cc ∧ K.lookup f = some ⟨oc, od, .func fd, sl⟩ ∧ PySem.W.codeIn K (.ref cda) qual = true ∧
    (∃ (cl : Value) (cd : Option Addr) (cs : Array (Option Value)), K.lookup cc = some ⟨cl, cd, .cell (some (.ref C)), cs⟩) ∧
    ∃ (ccl : Value) (cdd : Option Addr) (vs : Array Value) (ccs : Array (Option Value)) (file : Str) (tf : Tok), K.lookup cda = some ⟨ccl, cdd, .fields vs, ccs⟩ ∧ vs[2]? = some (.str file tf) ∧ ((P.main.file : Str) == file) = true
  kp : PySem.W.keepIn K (.ref f) = true
/-- what the written part says of the class at C -/
structure SupC (P : Program) (K : PySem.W.Frag) (C : Addr) : Prop where
  cls : ∃ cd, PySem.W.clsIn K C = some cd
  sub : PySem.W.mroIn K C (.ref C) = some true
  val : PySem.W.subIn K (.ref C) (.type "ValueError") = some true
  met : PySem.W.ks_superIn K C C "__init__" = some (some (.builtin "ValueError.__init__"))
  opq : PySem.W.nsIn K cStatics "thirdparty.any" = some none
  top : (P.main.scope.names.lookup ("super" : Str)).isSome = false
section
variable {P : Program} {w : World} {K : PySem.W.Frag} {mg : Str → Option Value} {base : Heap}
theorem back_look {y : Str} {u : Value} : ∀ {ps : List Str} {us : List Value} {i : Nat}, ps.Nodup → ps[i]? = some y → us[i]? = some u → (ps.zip us).reverse.lookup y = some u := by
  intro ps us i nd hp hu
  have hm : (y, u) ∈ (ps.zip us).reverse := by
    rw [List.mem_reverse]
    exact List.mem_of_getElem? (i := i) (List.getElem?_zip_eq_some.mpr ⟨hp, hu⟩)
  cases h : (ps.zip us).reverse.lookup y with
  | none =>
    have := List.lookup_eq_none_iff.mp h _ hm
    simp at this
  | some v =>
    have hv := PySem.mem_of_lookup h
    rw [List.mem_reverse] at hv
    obtain ⟨j, hj⟩ := List.mem_iff_getElem?.mp hv
    obtain ⟨a, b⟩ := List.getElem?_zip_eq_some.mp hj
    have : j = i := by
      have h1 := (List.getElem?_eq_some_iff.mp a)
      have h2 := (List.getElem?_eq_some_iff.mp hp)
      obtain ⟨l1, e1⟩ := h1
      obtain ⟨l2, e2⟩ := h2
      exact (List.getElem_inj nd).mp (e1.trans e2.symm)
    subst this
    rw [b] at hu
    exact hu
/-- the surroundings of such a def's body -/
def cxS (P : Program) (w : World) (K : PySem.W.Frag) (mg : Str → Option Value) (base : Heap) (N : List Str) (qual : Str) (sc : Scope) (f cc : Addr) (cd : Value) (A : Around) (outer : List Env) (s : Shared) (H : Hp) : Cx :=
  { prog := P, w := w, K := K, mg := mg, base := base, A := A.deeper (PySem.W.ksEnv qual sc s.heap.objs.size f cd cc), N := N, s_0 := s, H_0 := H, env := PySem.W.ksEnv qual sc s.heap.objs.size f cd cc,
    outer := outer, stack := PySem.W.ksEnv qual sc s.heap.objs.size f cd cc :: outer, ex := [], calm := true, fn := fun _ => false, pn := [], xe := fun _ _ => False }
theorem inv_sup {N ps : List Str} {qual : Str} {sc : Scope} {f cc : Addr} {cd : Value} {A : Around} {outer : List Env} {s : Shared} {H : Hp} {us : List Value} {vs : List V} {h0 : Heap} {tk : Nat}
    (S : SupScope N ps sc) (hd : A.handled = none) (e0 : Env0 P w K mg base A outer s H) (hl : vs.length = ps.length) (r : Vals vs us)
    (hc : ∃ (o : Obj) (v : Option Value), K.lookup cc = some o ∧ o.data = .cell v)
    (hn : h0.Ns s.heap.objs.size fun x => (ps.zip us).reverse.lookup x) (hk : ∀ b o, s.heap.get? b = some o → h0.get? b = some o) :
    Inv (cxS P w K mg base N qual sc f cc cd A outer s H) [] (start N vs) H { s with heap := h0, toks := tk } := by
  obtain ⟨oc, vc, lc, dc⟩ := hc
  have bc : base.get? cc = some oc := e0.mod.kin _ _ lc
  have many : ps.length ≤ N.length := by
    have q := congrArg List.length S.fst
    rw [List.length_take] at q
    omega
  have onlyc : ∀ x c, (PySem.W.ksEnv qual sc s.heap.objs.size f cd cc).cells.lookup x = some c → x = "__class__" ∧ c = cc := by
    intro x c h
    have h' : ([(("__class__" : Str), cc)] : List (Str × Addr)).lookup x = some c := h
    have m := PySem.mem_of_lookup h'
    rw [List.mem_singleton] at m
    exact ⟨congrArg Prod.fst m, congrArg Prod.snd m⟩
  constructor
  case ok =>
    constructor
    case mod => exact e0.mod
    case kind => exact S.kd
    case glob => rfl
    case blt => rfl
    case above => exact Nat.le_refl _
    case inj =>
      intro x y c h1 h2
      rw [(onlyc x c h1).1, (onlyc y c h2).1]
    case has =>
      intro x hx
      have hx : sc.names.lookup x = some .cell ∨ sc.names.lookup x = some .free := hx
      rcases hx with hx | hx
      · exact absurd rfl (S.noc _ (PySem.mem_of_lookup hx))
      · have e := S.one _ (PySem.mem_of_lookup hx) rfl
        have e : x = "__class__" := e
        subst e
        exact ⟨cc, rfl⟩
    case cab => intro x c z; exact Bool.noConfusion (show false = true from z)
    case hd => exact fun _ => hd
    case frames => exact Around.frames_deeper e0.frames
    case stk => exact .inr ⟨rfl, rfl⟩
    case exf => intro b z; exact absurd (show b ∈ ([] : List Addr) from z) (by simp)
    case bs => exact e0.bs
    case bsz => exact e0.bsz
    case noex => intro b o _ z; exact absurd (show b ∈ ([] : List Addr) from z) (by simp)
    case exfs => intro b z; exact absurd (show b ∈ ([] : List Addr) from z) (by simp)
    case funs => exact e0.funs
    case frf => exact e0.frf
  case os => rfl
  case bare => exact e0.bare
  case base => exact Un.kept hk
  case loc =>
    refine ⟨_, hn, fun i y v h1 h2 h3 => ?_⟩
    have hi : i < vs.length := by
      unfold L2.start at h2
      by_cases hi : i < vs.length
      · exact hi
      · rw [List.getElem?_append_right (by simpa using hi), List.getElem?_replicate] at h2
        split at h2 <;> cases h2
    have ha : vs[i]? = some v := by
      unfold L2.start at h2
      rw [List.getElem?_append_left (by simpa using hi), List.getElem?_map] at h2
      cases e : vs[i]? with
      | none => rw [e] at h2; cases h2
      | some z => rw [e] at h2; cases h2; rfl
    obtain ⟨u, hu, rv⟩ := r.get ha
    have hp : ps[i]? = some y := by
      rw [← S.fst, List.getElem?_take_of_lt (by omega)]
      exact h1
    have ndp : ps.Nodup := by
      rw [← S.fst]
      exact S.nd.sublist (List.take_sublist _ _)
    exact ⟨u, rv, .inl ⟨S.loc y (List.mem_of_getElem? hp), back_look ndp hp hu⟩⟩
  case cell =>
    intro x c h
    rw [(onlyc x c h).2]
    exact ⟨vc, oc, hk _ _ (e0.bs _ _ bc).1, dc⟩
  case free => exact e0.hok.fresh (Nat.le_refl _)
  case freeC =>
    intro x c h
    rw [(onlyc x c h).2]
    exact (e0.bs _ _ bc).2
  case pin => intro p hp; exact absurd (show p ∈ ([] : List (Addr × Obj)) from hp) (by simp)
  case hok => exact e0.hok.kept hk
  case len =>
    unfold L2.start
    show _ = N.length
    rw [List.length_append, List.length_map, List.length_replicate]
    omega
end
section
variable {P : Program} {w : World} {K : PySem.W.Frag} {mg : Str → Option Value} {base : Heap}
/-- the bound __init__ of ValueError, called: the exception's args are laid anew -/
theorem call_sup {X : Cx} {pins : List (Addr × Obj)} {σ : L2.St} {H : Hp} {s : Shared} {a C u : Addr} {us : List Value} {A : Around} {Q E : Value → Shared → Prop} (T : OexC X.K C) (I : Inv X ((u, PySem.W.kxs_mw "ValueError.__init__" a) :: pins) σ H s)
    (e : H a = some (exo a C none)) (hl : us.length ≤ sizeLine) (h : ∀ s', Inv X pins σ H s' → Q .none s') : wpAny (model X.prog X.w) A (call (.ref u) us) Q E s := by
  obtain ⟨nm, q, N, bs, bm, sn, sub, ab, col, dd, k0, k1, k2, k3, k5, hC, hbm⟩ := T.cls
  obtain ⟨t1, ho⟩ := exo_at I.hok e
  have hu : s.heap.get? u = some (PySem.W.kxs_mw "ValueError.__init__" a) := ClX.pin_at I
  have J := ClX.unpin I
  have cC := J.kIn _ _ hC
  obtain ⟨hp, g, d, t, os⟩ := s
  have eu : upd H a (exo a C none) = H := by
    funext b
    by_cases hb : b = a
    · rw [hb, upd_same, e]
    · rw [upd_ne hb]
  have y1 : (Value.type "method-wrapper" == Value.type "method") = false := by decide
  have y2 : (Value.type "method-wrapper" == Value.type "builtin_function_or_method") = false := by decide
  have y3 : (Value.type "method-wrapper" == Value.type "method-wrapper") = true := by decide
  refine wpAny_call (codeAny_of_tree ?_)
  show wpAny (model X.prog X.w) A.in1 (callAny (.ref u) ⟨us, []⟩) _ _ ⟨hp, g, d, t, os⟩
  unfold callAny
  refine wpAny_bind (wpAny_load hu ?_)
  dsimp only
  rw [y1, y2, y3]
  rw [if_pos (by rfl)]
  refine PySem.W.KFB.if_so (by decide) ?_
  have FV := PySem.F.excBase_ValueError
  refine wpAny_bind (PySem.W.check_bound_init FV.toExcCallFacts cC ho rfl ?_)
  refine wpAny_bind (wpAny_pure (wpAny_pure ?_))
  refine ⟨plainId_quiet FV.init.plain _, codeAny_builtin FV.initEntry ?_⟩
  refine PySem.W.exc_init_tree (cls := .ref C) (t0 := t1) (dv := none) (c2 := .none) (c3 := .none) (b4 := .bool false) ho hl fun h' k hx _ => ?_
  have W := J.write (t' := t) (x := a) (e := a) (o := exo a C none) (by rw [e]; exact True.intro) (.inl rfl) k ⟨_, hx⟩ (exo_ok hx)
  rw [eu] at W
  exact h _ W
theorem sup_step {N ps : List Str} {qual : Str} {sc : Scope} {f cc cda : Addr} {A : Around} {outer : List Env} {s0 s : Shared} {H0 H : Hp} {σ : L2.St} {st : Stmt} {kV dc pm ct oc : Value} {an od : Option Addr} {sl : Array (Option Value)}
    {a C : Addr} {p0 p1 p2 p3 p4 : Pos} {ar : Arg} {e : Expr} {es : List Expr} {ta : TA} {R : Hp → Prop} {body : List Stmt}
    (S : SupScope N ps sc) (T : OexC K C) (FC : SupC P K C) (hm : mg "super" = none)
    (lk : K.lookup f = some ⟨oc, od, .func (PySem.W.ksFn "__init__" qual (defArgs st) (defBody st) (defScope st) .none kV dc pm an (.ref cda) ct cc), sl⟩)
    (hcell : ∃ (cl : Value) (cd : Option Addr) (cs : Array (Option Value)), K.lookup cc = some ⟨cl, cd, .cell (some (.ref C)), cs⟩)
    (hcode : ∃ (ccl : Value) (cdd : Option Addr) (vs : Array Value) (ccs : Array (Option Value)) (file : Str) (tf : Tok), K.lookup cda = some ⟨ccl, cdd, .fields vs, ccs⟩ ∧ vs[2]? = some (.str file tf) ∧ ((P.main.file : Str) == file) = true)
    (hf : ((defArgs st).posonlyargs ++ (defArgs st).args).head? = some ar) (h0 : ps[0]? = some ar.arg) (hN : N[0]? = some ar.arg) (hσ : σ[0]? = some (some (.ref a)))
    (I : Inv (cxS P w K mg base N qual sc f cc (.ref cda) A outer s0 H0) [] σ H s) (ea : H a = some (exo a C none))
    (ha : PA (cxS P w K mg base N qual sc f cc (.ref cda) A outer s0 H0) (e :: es) ta)
    (hr : ta σ H fun vs H1 => vs.length ≤ 1000 ∧ H1 a = some (exo a C none) ∧ R H1) {pl : Sem Bool}
    (hi : interactive (PySem.W.ksEnv qual sc s0.heap.objs.size f (.ref cda) cc) = false := by rfl)
    (hs : swapsWith (.Call (.Attribute (.Call (.Name "super" p0) [] [] p1) "__init__" p2) (e :: es) [] p3) none p4.line (PySem.W.ksEnv qual sc s0.heap.objs.size f (.ref cda) cc) = pure false := by rfl)
    (hc : eval (.Call (.Attribute (.Call (.Name "super" p0) [] [] p1) "__init__" p2) (e :: es) [] p3) (PySem.W.ksEnv qual sc s0.heap.objs.size f (.ref cda) cc) = (do
      let ov ← attributeBase (.Call (.Name "super" p0) [] [] p1) "__init__" (PySem.W.ksEnv qual sc s0.heap.objs.size f (.ref cda) cc) (eval (.Call (.Name "super" p0) [] [] p1) (PySem.W.ksEnv qual sc s0.heap.objs.size f (.ref cda) cc))
      standAt p2.atName
      let (g, first) ← holding [ov] (getMethod ov "__init__" pl)
      callWith p3 g first (backTo p3 (starEach (e :: es) (PySem.W.ksEnv qual sc s0.heap.objs.size f (.ref cda) cc))) []) := by rfl)
    (he : starEach (e :: es) (PySem.W.ksEnv qual sc s0.heap.objs.size f (.ref cda) cc) = (false, eval e (PySem.W.ksEnv qual sc s0.heap.objs.size f (.ref cda) cc)) :: starEach es (PySem.W.ksEnv qual sc s0.heap.objs.size f (.ref cda) cc) := by rfl)
    (hpl : (backTo p3 (starEach es (PySem.W.ksEnv qual sc s0.heap.objs.size f (.ref cda) cc))).any (·.1) = false := by rfl) :
    _root_.PySem.wpAt (model P w) (A.deeper (PySem.W.ksEnv qual sc s0.heap.objs.size f (.ref cda) cc)) (.func body (PySem.W.ksEnv qual sc s0.heap.objs.size f (.ref cda) cc))
      (exec (.Expr (.Call (.Attribute (.Call (.Name "super" p0) [] [] p1) "__init__" p2) (e :: es) [] p3) p4) (PySem.W.ksEnv qual sc s0.heap.objs.size f (.ref cda) cc))
      (fun fl s' => fl = .next ∧ ∃ H1, Inv (cxS P w K mg base N qual sc f cc (.ref cda) A outer s0 H0) [] σ H1 s' ∧ R H1) (fun _ _ => False) s := by
  obtain ⟨cd, hcd⟩ := FC.cls
  obtain ⟨cl, cdc, cs, lcc⟩ := hcell
  obtain ⟨ccl, cdd, cvs, ccs, file, tf, lcd, hv2, hfile⟩ := hcode
  obtain ⟨oD, hD1, hD2⟩ : ∃ oD, s.heap.get? C = some oD ∧ oD.data = .cls cd := by
    have hq := hcd
    unfold PySem.W.clsIn at hq
    split at hq
    · rename_i c d cd' sl' ho
      cases hq
      exact ⟨_, I.kIn _ _ ho, rfl⟩
    · cases hq
  obtain ⟨t1, ho⟩ := exo_at I.hok ea
  have KX := I.kIn
  obtain ⟨m, hns, hloc⟩ := I.loc
  have hka : sc.names.lookup ar.arg = some .local := S.loc _ (List.mem_of_getElem? h0)
  obtain ⟨u, hu, hlook⟩ := hloc 0 ar.arg (.ref a) hN hσ (.inl hka)
  obtain rfl : u = Value.ref a := hu
  have hself : m ar.arg = some (.ref a) := by
    rcases hlook with z | ⟨z, _⟩
    · exact z.2
    · have z : sc.names.lookup ar.arg = some .cell ∨ sc.names.lookup ar.arg = some .free := z
      rw [hka] at z
      rcases z with z | z <;> cases z
  obtain ⟨mb, hb, hbb⟩ := I.mod.blt
  refine ks_wpAt_Expr_any ?_ hi hs
  refine ks_wpAt_MethodCall (pl := pl) ?_ hc
  refine ks_wpAt_super_base (env := PySem.W.ksEnv qual sc s0.heap.objs.size f (.ref cda) cc) S.sup S.cls (by decide) rfl (KX _ _ lk) rfl hf rfl (KX _ _ lcd) rfl hv2 hfile FC.top ?_
  refine PySem.W.ks_loadName_global S.kd S.sup (Calls.loadGlobal_builtin (mg := mg) (mb := mb) (I.mod.glob.keeps I.bk) hm (hb.keeps I.bk) ((hbb _ (by decide)).trans (by first | boot_by_name | rfl | kernel_rfl)) ⟨rfl, ?_⟩)
  refine wpAny_loadName_free S.kd S.cls rfl ⟨_, KX _ _ lcc, rfl⟩ ?_
  refine wpAny_loadName_local S.kd hka hns hself ?_
  refine ks_wpAny_isType_cls hD1 hD2 ⟨rfl, ?_⟩
  obtain ⟨hp, g, d, t, os⟩ := s
  refine ks_wpAny_call_super hD1 hD2 ho rfl (fun c z => by cases z) (PySem.W.looks_mroIn KX FC.sub) (fun h' e1 k1 => ?_)
  have I1 : Inv (cxS P w K mg base N qual sc f cc (.ref cda) A outer s0 H0) [] σ H ⟨h', g, d, t, os⟩ := I.kept (t' := t) k1
  have J1 : PySem.W.InstAt h' a { cls := .ref C, dict := none, data := .fields #[.ref t1, .none, .none, .none, .bool false, .none] } C none := ⟨k1 _ _ ho, rfl, rfl, trivial⟩
  have hmet : PySem.W.alongIn K "__init__" ((cd.mro.dropWhile (· != .ref C)).drop 1) = some (some (.builtin "ValueError.__init__")) := by
    have z := FC.met
    unfold PySem.W.ks_superIn at z
    rw [hcd] at z
    exact z
  refine PySem.W.kxs_getMethod PySem.W.kxs_ValueError e1 (PySem.W.looks_opaque I1.kIn FC.opq) (l₀ := cd.mro) (fun A Q E s k q => wpAny_bind ((PySem.W.looks_clsIn I1.kIn hcd) A _ E s k (wpAny_pure q))) rfl I1.kIn hmet
    (J1.type.andThen (PySem.W.looks_subIn I1.kIn FC.val)) (PySem.W.ks_ne I1.kIn J1 hcd) (by decide) ?_
  have I2 := ClX.pin_new (t' := t + 1) (o := PySem.W.kxs_mw "ValueError.__init__" a) (a := h'.objs.size) I1 (fun b o q => Heap.get?_push_of_some _ q) (Nat.le_refl _) (Heap.get?_push_at rfl rfl) (fun v z => nomatch z)
  have run := ha.run p3 _ _ σ H _ I2 hr
  have run' := run
  change wpAny (model P w) (A.deeper (PySem.W.ksEnv qual sc s0.heap.objs.size f (.ref cda) cc)) (callWith p3 (.ref h'.objs.size) [] (backTo p3 (starEach (e :: es) (PySem.W.ksEnv qual sc s0.heap.objs.size f (.ref cda) cc))) []) _ _ _
  have he2 : starEach (e :: es) (cxS P w K mg base N qual sc f cc (.ref cda) A outer s0 H0).env = (false, eval e (PySem.W.ksEnv qual sc s0.heap.objs.size f (.ref cda) cc)) :: starEach es (PySem.W.ksEnv qual sc s0.heap.objs.size f (.ref cda) cc) := he
  rw [he2] at run
  rw [he]
  refine PySem.W.kxs_callWith (i := "ValueError.__init__") (x := a) (by show (false || (backTo p3 (starEach es (PySem.W.ksEnv qual sc s0.heap.objs.size f (.ref cda) cc))).any (·.1)) = false; rw [hpl]; rfl) ?_
  refine Calls.evalArgs_plain (wpAny_mono run (fun us s1 ⟨vs, H1, I3, r1, hl, e3, hR⟩ => ⟨ClX.pin_at I3, ?_⟩) fun _ _ z => z)
  have hlen : us.length ≤ sizeLine := by
    rw [← r1.length, sizeLine_eq]
    omega
  exact call_sup T I3 e3 hlen fun s' J => ⟨rfl, H1, J, hR⟩
/-- a def whose first step is super().__init__(..), by the rest of its body -/
theorem sup_ok {C : Addr} {qual : Str} {st : Stmt} {f : Addr} {fd : FuncData} {N ps : List Str} {k : Nat} {sp : Sp} {ar : Arg} {p0 p1 p2 p3 p4 : Pos} {e : Expr} {es : List Expr} {rest : List Stmt}
    (F : SupFun P K C qual st f fd) (S : SupScope N ps (defScope st)) (T : OexC K C) (FC : SupC P K C) (hm : mg "super" = none) (len : ∀ vs H Q E, sp vs H Q E → vs.length = ps.length)
    (hf : ((defArgs st).posonlyargs ++ (defArgs st).args).head? = some ar) (h0 : ps[0]? = some ar.arg) (hN : N[0]? = some ar.arg)
    (hbd : defBody st = .Expr (.Call (.Attribute (.Call (.Name "super" p0) [] [] p1) "__init__" p2) (e :: es) [] p3) p4 :: rest)
    (body : ∀ (cc cda : Addr) (A : Around) (outer : List Env) (s : Shared) (H : Hp) (vs : List V) (Q : VK) (E : XK), sp vs H Q E →
      ∃ (a : Addr) (ta : TA) (t : TS) (pl : Sem Bool), (start N vs)[0]? = some (some (.ref a)) ∧ H a = some (exo a C none) ∧ PA (cxS P w K mg base N qual (defScope st) f cc (.ref cda) A outer s H) (e :: es) ta ∧ PSs (cxS P w K mg base N qual (defScope st) f cc (.ref cda) A outer s H) rest t ∧
        (ta (start N vs) H fun ws H1 => ws.length ≤ 1000 ∧ H1 a = some (exo a C none) ∧ t { nx := fun _ H' => Q .non H', rt := Q } (start N vs) H1) ∧
        interactive (PySem.W.ksEnv qual (defScope st) s.heap.objs.size f (.ref cda) cc) = false ∧
        swapsWith (.Call (.Attribute (.Call (.Name "super" p0) [] [] p1) "__init__" p2) (e :: es) [] p3) none p4.line (PySem.W.ksEnv qual (defScope st) s.heap.objs.size f (.ref cda) cc) = pure false ∧
        eval (.Call (.Attribute (.Call (.Name "super" p0) [] [] p1) "__init__" p2) (e :: es) [] p3) (PySem.W.ksEnv qual (defScope st) s.heap.objs.size f (.ref cda) cc) = (do
          let ov ← attributeBase (.Call (.Name "super" p0) [] [] p1) "__init__" (PySem.W.ksEnv qual (defScope st) s.heap.objs.size f (.ref cda) cc) (eval (.Call (.Name "super" p0) [] [] p1) (PySem.W.ksEnv qual (defScope st) s.heap.objs.size f (.ref cda) cc))
          standAt p2.atName
          let (g, first) ← holding [ov] (getMethod ov "__init__" pl)
          callWith p3 g first (backTo p3 (starEach (e :: es) (PySem.W.ksEnv qual (defScope st) s.heap.objs.size f (.ref cda) cc))) []) ∧
        starEach (e :: es) (PySem.W.ksEnv qual (defScope st) s.heap.objs.size f (.ref cda) cc) = (false, eval e (PySem.W.ksEnv qual (defScope st) s.heap.objs.size f (.ref cda) cc)) :: starEach es (PySem.W.ksEnv qual (defScope st) s.heap.objs.size f (.ref cda) cc) ∧
        (backTo p3 (starEach es (PySem.W.ksEnv qual (defScope st) s.heap.objs.size f (.ref cda) cc))).any (·.1) = false) : FnOk P w K mg base CX0 (k + 1) f fd ps sp := by
  obtain ⟨oc, od, kV, dc, pm, an, cda, cc, ct, sl, rfl, lk, hcd, hcell, hcode⟩ := F.ex
  constructor
  · exact len
  intro A outer s H args us vs Q E hr e0 hb r h
  have many := len _ _ _ _ h
  have KX : K.In s.heap := e0.mod.kin.keeps fun b o q => (e0.bs b o q).1
  have lim : s.heap.NoLimit := e0.mod.nolimit.keeps fun b o q => (e0.bs b o q).1
  refine ks_codeAny_call_defAt hr.depth (KX _ _ lk) rfl lim (PySem.W.codeRec_of KX hcd) rfl hb S.noc (fun y hy => S.loc y.1 (List.of_mem_zip (show (y.1, y.2) ∈ ps.zip us from hy)).1) (fun h0' hns hk => ?_) S.c0 S.g0 S.kd
  obtain ⟨a, ta, t, pl, hσ, ea, hPA, hPS, hread, hi, hs, hc, he, hpl⟩ := body cc cda A outer s H vs Q E h
  have I := inv_sup (P := P) (w := w) (qual := qual) (f := f) (cd := .ref cda) (tk := s.toks + (ps.zip us).length) S hr.hd e0 many r (let ⟨cl, cd, cs, lc⟩ := hcell; ⟨_, _, lc, rfl⟩) hns hk
  show _root_.PySem.wpAt (model P w) (A.deeper (PySem.W.ksEnv qual (defScope st) s.heap.objs.size f (.ref cda) cc)) (.func (defBody st) (PySem.W.ksEnv qual (defScope st) s.heap.objs.size f (.ref cda) cc)) (execs (defBody st) (PySem.W.ksEnv qual (defScope st) s.heap.objs.size f (.ref cda) cc)) _ _ _
  rw [hbd]
  refine ks_wpAt_execs_cons (ks_wpAt_mono (sup_step (R := fun H1 => t { nx := fun _ H' => Q .non H', rt := Q } (start N vs) H1) S T FC hm lk hcell hcode hf h0 hN hσ I ea hPA hread (pl := pl) hi hs hc he hpl) ?_ fun _ _ z => z.elim)
  rintro fl s' ⟨rfl, H1, J, hR⟩
  refine _root_.PySem.wpAt_of_wpAny (wpAny_mono (hPS.run [] s' (start N vs) H1 _ J hR) ?_ fun _ _ z => False.elim z)
  rintro fl2 s2 z
  cases fl2 with
  | ret u =>
    obtain ⟨v, σ', H', J', rv, q⟩ := z
    exact ⟨v, H', J'.os, J'.bare, J'.base, J'.hok, rv, q⟩
  | next =>
    obtain ⟨σ', H', J', q⟩ := z
    exact ⟨V.non, H', J'.os, J'.bare, J'.base, J'.hok, rfl, q⟩
  | brk => obtain ⟨_, _, _, q⟩ := z; exact q.elim
  | cont => obtain ⟨_, _, _, q⟩ := z; exact q.elim
end
end Gd

namespace Lw
open PySem L2 Gd
def top (i : Nat) : Stmt := PySem.Challenge.pw_halftruths_k05_forms_and_faces.main.body.getD i (.Pass ⟨0, 0, 0, 0⟩)
abbrev s_UnknownName_init : Stmt := inClass (top 3) 0
abbrev s_lowest_terms : Stmt := top 5
abbrev s_denominator_of : Stmt := top 6
abbrev s_form_at : Stmt := top 8
abbrev s_unit : Stmt := top 9
abbrev s_opposite : Stmt := top 10
abbrev s_one_less : Stmt := top 11
abbrev s_faces : Stmt := top 12
abbrev s_summed : Stmt := top 13
abbrev s_name_form : Stmt := top 15
abbrev s_not_form : Stmt := top 16
abbrev s_law_begun : Stmt := top 18
abbrev s_law_draw : Stmt := top 19
abbrev s_law_of : Stmt := top 20
abbrev s_law_lowest : Stmt := top 21
abbrev s_law_some_value : Stmt := top 22
abbrev s_law_whole : Stmt := top 23
abbrev s_law_form : Stmt := top 24
abbrev s_law_at_right : Stmt := top 25
abbrev s_law_sums_right : Stmt := top 26
abbrev s_law_faces_right : Stmt := top 27
abbrev s_law_names_right : Stmt := top 28
abbrev s_law : Stmt := top 29
/-- what the top has written -/
structure Txt (P : Program) (K : PySem.W.Frag) (mg : Str → Option Value) where
  f_lowest_terms : Addr
  d_lowest_terms : FuncData
  F_lowest_terms : Fun K "lowest_terms" "lowest_terms" s_lowest_terms f_lowest_terms d_lowest_terms
  b_lowest_terms : Binds K d_lowest_terms ["above", "below"] []
  g_lowest_terms : mg "lowest_terms" = some (.ref f_lowest_terms)
  f_denominator_of : Addr
  d_denominator_of : FuncData
  F_denominator_of : Fun K "denominator_of" "denominator_of" s_denominator_of f_denominator_of d_denominator_of
  b_denominator_of : Binds K d_denominator_of ["point"] []
  g_denominator_of : mg "denominator_of" = some (.ref f_denominator_of)
  f_form_at : Addr
  d_form_at : FuncData
  F_form_at : Fun K "form_at" "form_at" s_form_at f_form_at d_form_at
  b_form_at : Binds K d_form_at ["form", "point"] []
  g_form_at : mg "form_at" = some (.ref f_form_at)
  f_unit : Addr
  d_unit : FuncData
  F_unit : Fun K "unit" "unit" s_unit f_unit d_unit
  b_unit : Binds K d_unit ["place", "count"] []
  g_unit : mg "unit" = some (.ref f_unit)
  f_opposite : Addr
  d_opposite : FuncData
  F_opposite : Fun K "opposite" "opposite" s_opposite f_opposite d_opposite
  b_opposite : Binds K d_opposite ["form"] []
  g_opposite : mg "opposite" = some (.ref f_opposite)
  f_one_less : Addr
  d_one_less : FuncData
  F_one_less : Fun K "one_less" "one_less" s_one_less f_one_less d_one_less
  b_one_less : Binds K d_one_less ["form"] []
  g_one_less : mg "one_less" = some (.ref f_one_less)
  f_faces : Addr
  d_faces : FuncData
  F_faces : Fun K "faces" "faces" s_faces f_faces d_faces
  b_faces : Binds K d_faces ["count"] []
  g_faces : mg "faces" = some (.ref f_faces)
  f_summed : Addr
  d_summed : FuncData
  F_summed : Fun K "summed" "summed" s_summed f_summed d_summed
  b_summed : Binds K d_summed ["forms", "multiples"] []
  g_summed : mg "summed" = some (.ref f_summed)
  f_name_form : Addr
  d_name_form : FuncData
  F_name_form : Fun K "name_form" "name_form" s_name_form f_name_form d_name_form
  b_name_form : Binds K d_name_form ["names", "name"] []
  g_name_form : mg "name_form" = some (.ref f_name_form)
  f_not_form : Addr
  d_not_form : FuncData
  F_not_form : Fun K "not_form" "not_form" s_not_form f_not_form d_not_form
  b_not_form : Binds K d_not_form ["form"] []
  g_not_form : mg "not_form" = some (.ref f_not_form)
  f_law_begun : Addr
  d_law_begun : FuncData
  F_law_begun : Fun K "_law_begun" "_law_begun" s_law_begun f_law_begun d_law_begun
  b_law_begun : Binds K d_law_begun ["script", "k"] []
  g_law_begun : mg "_law_begun" = some (.ref f_law_begun)
  f_law_draw : Addr
  d_law_draw : FuncData
  F_law_draw : Fun K "_law_draw" "_law_draw" s_law_draw f_law_draw d_law_draw
  b_law_draw : Binds K d_law_draw ["m", "below"] []
  g_law_draw : mg "_law_draw" = some (.ref f_law_draw)
  f_law_of : Addr
  d_law_of : FuncData
  F_law_of : Fun K "_law_of" "_law_of" s_law_of f_law_of d_law_of
  b_law_of : Binds K d_law_of ["m", "some"] []
  g_law_of : mg "_law_of" = some (.ref f_law_of)
  f_law_lowest : Addr
  d_law_lowest : FuncData
  F_law_lowest : Fun K "_law_lowest" "_law_lowest" s_law_lowest f_law_lowest d_law_lowest
  b_law_lowest : Binds K d_law_lowest ["above", "below"] []
  g_law_lowest : mg "_law_lowest" = some (.ref f_law_lowest)
  f_law_some_value : Addr
  d_law_some_value : FuncData
  F_law_some_value : Fun K "_law_some_value" "_law_some_value" s_law_some_value f_law_some_value d_law_some_value
  b_law_some_value : Binds K d_law_some_value ["m"] []
  g_law_some_value : mg "_law_some_value" = some (.ref f_law_some_value)
  f_law_whole : Addr
  d_law_whole : FuncData
  F_law_whole : Fun K "_law_whole" "_law_whole" s_law_whole f_law_whole d_law_whole
  b_law_whole : Binds K d_law_whole ["m"] []
  g_law_whole : mg "_law_whole" = some (.ref f_law_whole)
  f_law_form : Addr
  d_law_form : FuncData
  F_law_form : Fun K "_law_form" "_law_form" s_law_form f_law_form d_law_form
  b_law_form : Binds K d_law_form ["m", "count"] []
  g_law_form : mg "_law_form" = some (.ref f_law_form)
  f_law_at_right : Addr
  d_law_at_right : FuncData
  F_law_at_right : Fun K "_law_at_right" "_law_at_right" s_law_at_right f_law_at_right d_law_at_right
  b_law_at_right : Binds K d_law_at_right ["m", "count"] []
  g_law_at_right : mg "_law_at_right" = some (.ref f_law_at_right)
  f_law_sums_right : Addr
  d_law_sums_right : FuncData
  F_law_sums_right : Fun K "_law_sums_right" "_law_sums_right" s_law_sums_right f_law_sums_right d_law_sums_right
  b_law_sums_right : Binds K d_law_sums_right ["m", "count"] []
  g_law_sums_right : mg "_law_sums_right" = some (.ref f_law_sums_right)
  f_law_faces_right : Addr
  d_law_faces_right : FuncData
  F_law_faces_right : Fun K "_law_faces_right" "_law_faces_right" s_law_faces_right f_law_faces_right d_law_faces_right
  b_law_faces_right : Binds K d_law_faces_right ["count"] []
  g_law_faces_right : mg "_law_faces_right" = some (.ref f_law_faces_right)
  f_law_names_right : Addr
  d_law_names_right : FuncData
  F_law_names_right : Fun K "_law_names_right" "_law_names_right" s_law_names_right f_law_names_right d_law_names_right
  b_law_names_right : Binds K d_law_names_right ["m", "count"] []
  g_law_names_right : mg "_law_names_right" = some (.ref f_law_names_right)
  m_gcd : mg "gcd" = some (.builtin "math.gcd")
  m_lcm : mg "lcm" = some (.builtin "math.lcm")
  C_UnknownName : Addr
  m_UnknownName : mg "UnknownName" = some (.ref C_UnknownName)
  o_UnknownName : OexC K C_UnknownName
  x_UnknownName : XfC K C_UnknownName
  f_UnknownName_init : Addr
  d_UnknownName_init : FuncData
  F_UnknownName_init : SupFun P K C_UnknownName "UnknownName.__init__" s_UnknownName_init f_UnknownName_init d_UnknownName_init
  S_UnknownName : SupC P K C_UnknownName
  b_UnknownName_init : Binds K d_UnknownName_init ["self", "name"] []
  i_UnknownName : PySem.W.findIn K (.ref C_UnknownName) "__init__" = some (some (.ref f_UnknownName_init))
  t_UnknownName : PySem.W.typeIn K (.ref f_UnknownName_init) = some (.type "function")
  n_UnknownName_name : PySem.W.findIn K (.ref C_UnknownName) "name" = some none
  e_UnknownName_UnknownName : PySem.W.exmOne K (.ref C_UnknownName) (.ref C_UnknownName) = some true
  z_super : mg "super" = none
  z_zip : mg "zip" = none
  z_tuple : mg "tuple" = none
  z_range : mg "range" = none
  z_len : mg "len" = none
  z_int : mg "int" = none
  z_abs : mg "abs" = none
  z_repr : mg "repr" = none
  z_min : mg "min" = none

local macro_rules | `(tactic| walk_at "rd1") => `(tactic| first
  | with_reducible refine rd_for ?_ | with_reducible refine rd_lc ?_ | with_reducible refine rd_iL ?_ | with_reducible refine rd_iT ?_ | with_reducible refine rd_iR1 ?_ | with_reducible refine rd_iZ ?_
  | with_reducible refine rd_pcons ?_ | with_reducible refine rd_pnil ?_ | with_reducible refine rd_disp ?_
  | with_reducible refine rd_bm ?_ | with_reducible refine rd_bm0 ?_ | with_reducible refine rd_revT ?_
  | with_reducible refine rd_gname ?_ | with_reducible refine rd_gcons ?_ | with_reducible refine rd_gnil ?_
  | with_reducible refine rd_seq ?_ | with_reducible refine rd_asg ?_ | with_reducible refine rd_asgG ?_ | with_reducible refine rd_ii ?_ | with_reducible refine rd_op ?_ | with_reducible refine rd_c ?_
  | ((with_reducible refine' rd_var ?rdh ?_); (case rdh => rfl))
  | with_reducible refine rd_i0 ?_ | with_reducible refine rd_ret ?_ | with_reducible refine rd_ifs ?_ | with_reducible refine rd_test ?_ | with_reducible refine rd_bl ?_
  | with_reducible refine rd_cb ?_ | with_reducible refine rd_cons ?_ | with_reducible refine rd_nil ?_ | with_reducible refine rd_call ?_
  | with_reducible refine rd_tup ?_ | with_reducible refine rd_lst ?_ | with_reducible refine rd_if ?_ | with_reducible refine rd_un ?_ | with_reducible refine rd_u ?_
  | with_reducible refine rd_dget ?_ | with_reducible refine rd_dput ?_ | with_reducible refine rd_par ?_ | with_reducible refine rd_pair ?_ | with_reducible refine rd_intI ?_
  | with_reducible refine rd_sl ?_ | with_reducible refine rd_nopart ?_ | with_reducible refine rd_part ?_ | with_reducible refine rd_int ?_
  | with_reducible refine rd_next ?_ | with_reducible refine rd_drop ?_ | with_reducible refine rd_retN ?_ | with_reducible refine rd_tb ?_
  | with_reducible refine rd_and ?_ | with_reducible refine rd_or ?_ | with_reducible refine rd_not ?_ | with_reducible refine rd_andV ?_ | with_reducible refine rd_orV ?_ | with_reducible refine rd_notV ?_
  | ((with_reducible refine rd_eq ?rdh ?_); (case rdh => rfl)) | ((with_reducible refine rd_ne ?rdh ?_); (case rdh => rfl))
  | ((with_reducible refine rd_i ?rdh ?_); (case rdh => first | decide | omega | exact ⟨by omega, by omega⟩ | exact ⟨by decide, by decide, by decide⟩ | exact .inl ⟨by omega, by omega⟩ | exact .inr ⟨by omega, by omega⟩))
  | (fail_if_success (with_reducible refine rd_i ?_ ?_)); dsimp only)
local macro_rules | `(tactic| walk_at "rd") => `(tactic| repeat (walk_at "rd1"))
local macro_rules | `(tactic| walk_at "difs") => `(tactic| (walk_at "rd"; repeat ((first | refine rd_true (by decide +kernel) ?_ | refine rd_false (by decide +kernel) ?_); walk_at "rd")))

/-! ### fractions: lowest terms, common denominators -/
def spLow : Sp := fun vs H Q _ => ∃ a b : Int, vs = [.int a, .int b] ∧ 0 < b ∧ b.natAbs < 10 ^ 40 ∧
  ∀ (p : Addr) (H' : Hp), Same H H' → H' p = some (.tup [.int (a / (Int.gcd a b : Int)), .int (b / (Int.gcd a b : Int))]) → Q (.ref p) H'
theorem gcd_pos {a b : Int} (h : 0 < b) : 0 < Int.gcd a b := Nat.gcd_pos_of_pos_right _ (by omega)
theorem gcd_le {a b : Int} (h : 0 < b) : Int.gcd a b ≤ b.natAbs := Nat.le_of_dvd (by omega) (Nat.gcd_dvd_right _ _)
theorem div40 {a b : Int} (h : 0 < b) (hb : b.natAbs < 10 ^ 40) : CDivW a b := wide_div h (b := 140) (Nat.lt_trans hb (by decide)) (by decide) (by decide)
section
variable {P : Program} {w : World} {K : PySem.W.Frag} {mg : Str → Option Value} {base : Heap}
theorem sc_UnknownName_init : SupScope ["self", "name"] ["self", "name"] (defScope s_UnknownName_init) := ⟨rfl, rfl, rfl, by decide +kernel, rfl, by decide +kernel, by decide +kernel, by decide +kernel, rfl, rfl⟩
theorem ok_UnknownName_init (T : Txt P K mg) {k : Nat} : FnOk P w K mg base CX0 (k + 1) T.f_UnknownName_init T.d_UnknownName_init ["self", "name"] (spInitX T.C_UnknownName "name") := by
  refine sup_ok T.F_UnknownName_init sc_UnknownName_init T.o_UnknownName T.S_UnknownName T.z_super (fun vs H Q E h => ?_) rfl rfl rfl rfl (fun cc cda A outer s H vs Q E h => ?_)
  · obtain ⟨a, v, rfl, _⟩ := h
    rfl
  obtain ⟨a, v, rfl, e, q⟩ := h
  refine ⟨a, _, _, _, rfl, e, pa_cons pe_str pa_nil, pss_one (ps_ost (pv 0) (pv 1)), ?_, rfl, rfl, rfl, rfl, rfl⟩
  walk_at "rd"
  refine ⟨by show 1 ≤ 1000; decide, e, ?_⟩
  refine rd_ost ?_
  walk_at "rd"
  exact ⟨a, T.C_UnknownName, rfl, T.o_UnknownName, T.n_UnknownName_name, .inl ⟨e, fun dx nd ne => q dx nd ne⟩⟩
theorem sc_lowest_terms : FnScope ["above", "below", "common"] ["above", "below"] (defScope s_lowest_terms) := ⟨rfl, rfl, rfl, by decide +kernel, rfl, by decide +kernel, by decide +kernel⟩
theorem ok_lowest_terms (T : Txt P K mg) {k : Nat} : FnOk P w K mg base CX0 (k + 1) T.f_lowest_terms T.d_lowest_terms ["above", "below"] spLow := by
  refine T.F_lowest_terms.ok sc_lowest_terms (fun vs H Q E h => ?_) (fun cdv A outer s H vs Q E hr h => ?_)
  · obtain ⟨a, b, rfl, _⟩ := h
    rfl
  obtain ⟨a, b, rfl, h0, hb, q⟩ := h
  refine ⟨_, (pss_cons (ps_set (i := 2) sc_lowest_terms.nd rfl (Or.inl rfl) (pe_callBfun cr_gcd (by rfl) T.m_gcd (pa_cons (pv 0) (pa_cons (pv 1) pa_nil))))
    (pss_cons (ps_if (pt_cmpR op_lt (pv 1) pe_int (by rfl)) (pss_one (ps_set (i := 2) sc_lowest_terms.nd rfl (Or.inl rfl) (pe_un un_neg (pv 2)))) pss_nil)
    (pss_one (ps_ret (pe_tup (pa_cons (pe_op op_fdivW (pv 0) (pv 2)) (pa_cons (pe_op op_fdivW (pv 1) (pv 2)) pa_nil))))))), ?_⟩
  try dsimp only [L2.cxOf, L2.Cx.nox]
  walk_at "rd"
  refine ⟨a, b, rfl, ?_⟩
  have g0 := gcd_pos (a := a) h0
  have g1 := gcd_le (a := a) h0
  have dv : CDivW a (Int.gcd a b : Int) := div40 (by omega) (by omega)
  have dw : CDivW b (Int.gcd a b : Int) := div40 (by omega) (by omega)
  walk_at "rd"
  refine rd_false (by omega) ?_
  walk_at "rd"
  refine rd_i dv ?_
  walk_at "rd"
  refine rd_i dw ?_
  walk_at "rd"
  refine ⟨by show 2 ≤ sizeLine; decide, fun p np => ?_⟩
  exact q p _ (Same.new np _) upd_same
def cden (ps : List (Int × Int)) : Nat := ps.foldl (fun c p => Nat.lcm c p.2.natAbs) 1
/-- denominators as they are drawn -/
def DenOk (ps : List (Int × Int)) : Prop := ∀ p ∈ ps, 0 < p.2 ∧ (p.2.natAbs ∣ 1000003 ∨ p.2.natAbs ≤ 40)
theorem cden_more {ps : List (Int × Int)} {i : Nat} {p : Int × Int} (h : ps[i]? = some p) : cden (ps.take (i + 1)) = Nat.lcm (cden (ps.take i)) p.2.natAbs := by
  unfold cden
  rw [List.take_add_one, h, List.foldl_append]
  rfl
theorem cden_small {ps : List (Int × Int)} (h : DenOk ps) : ∀ i, i ≤ ps.length → 0 < cden (ps.take i) ∧ ∃ s, 0 < s ∧ s ≤ 40 ^ i ∧ cden (ps.take i) ∣ 1000003 * s
  | 0, _ => ⟨by rw [List.take_zero]; exact Nat.one_pos, 1, Nat.one_pos, Nat.le_refl _, by rw [List.take_zero]; exact Nat.one_dvd _⟩
  | i + 1, hi => by
    obtain ⟨c0, s, s0, s1, sd⟩ := cden_small h i (by omega)
    have hp : ps[i]? = some ps[i] := List.getElem?_eq_getElem (by omega)
    obtain ⟨d0, hd⟩ := h ps[i] (List.getElem_mem _)
    rw [cden_more hp]
    refine ⟨Nat.lcm_pos c0 (by omega), ?_⟩
    rcases hd with hd | hd
    · refine ⟨s, s0, Nat.le_trans s1 (Nat.pow_le_pow_right (by decide) (Nat.le_succ i)), Nat.lcm_dvd sd (Nat.dvd_trans hd (Nat.dvd_mul_right _ _))⟩
    · refine ⟨s * ps[i].2.natAbs, Nat.mul_pos s0 (by omega), ?_, Nat.lcm_dvd ?_ ?_⟩
      · rw [Nat.pow_succ]
        exact Nat.mul_le_mul s1 hd
      · rw [← Nat.mul_assoc]
        exact Nat.dvd_trans sd (Nat.dvd_mul_right _ _)
      · rw [← Nat.mul_assoc]
        exact Nat.dvd_mul_left _ _
theorem cden_lt {ps : List (Int × Int)} (h : DenOk ps) {i : Nat} (hi : i ≤ ps.length) (h5 : i ≤ 5) : cden (ps.take i) < 10 ^ 15 := by
  obtain ⟨c0, s, s0, s1, sd⟩ := cden_small h i hi
  have := Nat.le_of_dvd (Nat.mul_pos (by decide) s0) sd
  have e : (40 : Nat) ^ i ≤ 40 ^ 5 := Nat.pow_le_pow_right (by decide) h5
  have e2 : (40 : Nat) ^ 5 = 102400000 := by decide
  omega
def spDen (K : PySem.W.Frag) : Sp := fun vs H Q _ => ∃ (a : Addr) (xs : List V) (ps : List (Int × Int)), vs = [.ref a] ∧ SqT K H a xs ∧ PrsAt K H ps xs ∧ DenOk ps ∧ ps.length ≤ 5 ∧
  ∀ H' : Hp, Same H H' → Q (.int (cden ps : Int)) H'
theorem sc_denominator_of : FnScope ["point", "common", "value"] ["point"] (defScope s_denominator_of) := ⟨rfl, rfl, rfl, by decide +kernel, rfl, by decide +kernel, by decide +kernel⟩
theorem ok_denominator_of (T : Txt P K mg) {k : Nat} : FnOk P w K mg base CX0 (k + 1) T.f_denominator_of T.d_denominator_of ["point"] (spDen K) := by
  refine T.F_denominator_of.ok sc_denominator_of (fun vs H Q E h => ?_) (fun cdv A outer s H vs Q E hr h => ?_)
  · obtain ⟨a, xs, ps, rfl, _⟩ := h
    rfl
  obtain ⟨a, xs, ps, rfl, ha, hp, hd, h5, q⟩ := h
  refine ⟨_, (pss_cons (ps_set (i := 1) sc_denominator_of.nd rfl (Or.inl rfl) pe_int)
    (pss_cons (ps_for PassesOwn.never rfl (pi_tup (pv 0)) (pg_name (i := 2) sc_denominator_of.nd rfl (Or.inl rfl)) (pss_one (ps_set (i := 1) sc_denominator_of.nd rfl (Or.inl rfl) (pe_callBfun cr_lcm (by rfl) T.m_lcm (pa_cons (pv 1) (pa_cons (pe_ix (ix_tupK K) (pv 2) pe_int (fun _ _ => rfl)) pa_nil))))))
    (pss_one (ps_ret (pv 1))))), ?_⟩
  try dsimp only [L2.cxOf, L2.Cx.nox]
  walk_at "rd"
  refine rd_atT ha (forT (xs := xs) (fun i σ H' => ∃ y : Option V, σ = [some (.ref a), some (.int (cden (ps.take i) : Int)), y] ∧ H' = H) ⟨none, rfl, rfl⟩ (fun i σ H' _ ⟨_, _, z⟩ => by rw [z]; exact ha) ?_ ?_)
  · rintro i x σ H' hi ⟨y, rfl, rfl⟩
    obtain ⟨u, v, p, hpi, rfl, hpp⟩ := hp.get hi
    have hil : i < ps.length := (List.getElem?_eq_some_iff.mp hpi).1
    have c1 := cden_lt hd (i := i) (by omega) (by omega)
    have hv := hd (u, v) (List.mem_of_getElem? hpi)
    have v0 : 0 < v := hv.1
    have v1 : v.natAbs ≤ 1000003 := by
      rcases hv.2 with z | z
      · exact Nat.le_of_dvd (by decide) z
      · exact Nat.le_trans z (by decide)
    walk_at "rd"
    refine rd_ixT hpp (atI_nat (j := 1) rfl) ?_
    walk_at "rd"
    refine ⟨_, v, rfl, ?_, ?_, ?_⟩
    · exact Nat.lt_of_lt_of_le (show ((cden (ps.take i) : Nat) : Int).natAbs < 10 ^ 15 by rw [Int.natAbs_natCast]; exact c1) (by decide)
    · exact Nat.lt_of_le_of_lt v1 (by decide)
    · walk_at "rd"
      refine ⟨some (.ref p), ?_, rfl⟩
      rw [cden_more hpi, Int.natAbs_natCast]
      rfl
  · rintro σ H' ⟨y, rfl, rfl⟩
    walk_at "rd"
    rw [← hp.length, List.take_length]
    exact q H' (Same.refl _)
end

/-! ### a form at a point -/
def tot (W : Int) (l : List (Int × (Int × Int))) (t : Int) : Int := l.foldl (fun t q => t + q.1 * q.2.1 * (W / q.2.2)) t
theorem tot_more {W t : Int} {l : List (Int × (Int × Int))} {i : Nat} {q : Int × (Int × Int)} (h : l[i]? = some q) : tot W (l.take (i + 1)) t = tot W (l.take i) t + q.1 * q.2.1 * (W / q.2.2) := by
  unfold tot
  rw [List.take_add_one, h, List.foldl_append]
  rfl
def Low (B : Nat) (xs : List Int) : Prop := ∀ x ∈ xs, x.natAbs ≤ B
/-- values from 0 to 1 -/
def NumOk (ps : List (Int × Int)) : Prop := ∀ p ∈ ps, 0 ≤ p.1 ∧ p.1 ≤ p.2
theorem same_sqT {K : PySem.W.Frag} {H H' : Hp} (s : Same H H') : ∀ p xs, SqT K H p xs → SqT K H' p xs := fun _ _ h => s.seqT h
theorem den_lt {ps : List (Int × Int)} (h : DenOk ps) {p : Int × Int} (hp : p ∈ ps) : 0 < p.2 ∧ p.2.natAbs ≤ 1000003 := by
  obtain ⟨h0, h1⟩ := h p hp
  refine ⟨h0, ?_⟩
  rcases h1 with z | z
  · exact Nat.le_of_dvd (by decide) z
  · exact Nat.le_trans z (by decide)
/-- the fraction a/b in lowest terms -/
def lowT (a b : Int) : List Int := [a / (Int.gcd a b : Int), b / (Int.gcd a b : Int)]
def spAt (K : PySem.W.Frag) : Sp := fun vs H Q _ => ∃ (a b : Addr) (x0 : Int) (xs : List Int) (ws : List V) (ps : List (Int × Int)), vs = [.ref a, .ref b] ∧ SqT K H a ((x0 :: xs).map V.int) ∧ SqT K H b ws ∧ PrsAt K H ps ws ∧ DenOk ps ∧ NumOk ps ∧ xs.length = ps.length ∧ ps.length ≤ 5 ∧ Low (10 ^ 13) (x0 :: xs) ∧
  ∀ (p : Addr) (H' : Hp), Same H H' → H' p = some (.tup ((lowT (tot (cden ps) (xs.zip ps) (x0 * cden ps)) (cden ps)).map V.int)) → Q (.ref p) H'
section
variable {P : Program} {w : World} {K : PySem.W.Frag} {mg : Str → Option Value} {base : Heap}
theorem sc_form_at : FnScope ["form", "point", "whole", "total", "number", "above", "below"] ["form", "point"] (defScope s_form_at) := ⟨rfl, rfl, rfl, by decide +kernel, rfl, by decide +kernel, by decide +kernel⟩
theorem ok_form_at (T : Txt P K mg) {k : Nat} : FnOk P w K mg base CX0 (k + 2) T.f_form_at T.d_form_at ["form", "point"] (spAt K) := by
  refine T.F_form_at.ok sc_form_at (fun vs H Q E h => ?_) (fun cdv A outer s H vs Q E hr h => ?_)
  · obtain ⟨a, b, x0, xs, ws, ps, rfl, _⟩ := h
    rfl
  obtain ⟨a, b, x0, xs, ws, ps, rfl, ha, hb, hp, hd, hn, hl, h5, low, q⟩ := h
  refine ⟨_, (pss_cons (ps_set (i := 2) sc_form_at.nd rfl (Or.inl rfl) (pe_call (ok_denominator_of T) hr (by rfl) T.g_denominator_of T.F_denominator_of.kp T.b_denominator_of .nil pass0 (pa_cons (pv 1) pa_nil)))
    (pss_cons (ps_set (i := 3) sc_form_at.nd rfl (Or.inl rfl) (pe_op op_mulB (pe_ix (ix_tupK K) (pv 0) pe_int (fun _ _ => rfl)) (pv 2)))
    (pss_cons (ps_for PassesOwn.never rfl (RZ.pi_zipA (by rfl) T.z_zip (pa_cons (pe_slice (sl_tupK K) (pv 0) (po_some pe_int) po_none) (pa_cons (pv 1) pa_nil))) (pg_tup rfl (pgs_cons (pg_name (i := 4) sc_form_at.nd rfl (Or.inl rfl)) (pgs_cons (pg_tup rfl (pgs_cons (pg_name (i := 5) sc_form_at.nd rfl (Or.inl rfl)) (pgs_cons (pg_name (i := 6) sc_form_at.nd rfl (Or.inl rfl)) pgs_nil))) pgs_nil))) (pss_one (ps_aug (i := 3) sc_form_at.nd rfl (Or.inl rfl) (pe_op op_mulB (pe_op op_mulB (pv 4) (pv 5)) (pe_op op_fdivW (pv 2) (pv 6))) ip_add)))
    (pss_one (ps_ret (pe_call (ok_lowest_terms T) hr (by rfl) T.g_lowest_terms T.F_lowest_terms.kp T.b_lowest_terms .nil pass0 (pa_cons (pv 3) (pa_cons (pv 2) pa_nil)))))))), ?_⟩
  try dsimp only [L2.cxOf, L2.Cx.nox]
  have cW := cden_lt hd (i := ps.length) (Nat.le_refl _) h5
  have c0 := (cden_small hd ps.length (Nat.le_refl _)).1
  rw [List.take_length] at cW c0
  walk_at "rd"
  refine ⟨b, ws, ps, rfl, hb, hp, hd, h5, fun H1 s1 => ?_⟩
  have ha1 := s1.seqT ha
  have hb1 := s1.seqT hb
  have hp1 := hp.keep (same_sqT s1)
  generalize cden ps = W at cW c0 q
  have hW : ((W : Nat) : Int).natAbs < 10 ^ 40 := by
    rw [Int.natAbs_natCast]
    exact Nat.lt_trans cW (by decide)
  walk_at "rd"
  refine rd_ixT ha1 (atI_nat (j := 0) rfl) ?_
  walk_at "rd"
  refine rd_i (mulB_ok (Nat.lt_of_le_of_lt (low x0 (List.mem_cons_self ..)) (by decide)) hW) ?_
  walk_at "rd"
  refine rd_tail ha1 fun p2 n2 => ?_
  have s2 := Same.new n2 (.tup (xs.map V.int))
  walk_at "rd"
  refine rd_atZ (sqT upd_same) (s2.seqT hb1) (forZ (xs := xs.map V.int) (ys := ws) (by rw [List.length_map, hl, hp.length]) (fun i σ H' => ∃ y3 y4 y5 : Option V, σ = [some (.ref a), some (.ref b), some (.int (W : Int)), some (.int (tot W ((xs.zip ps).take i) (x0 * W))), y3, y4, y5] ∧ Same (upd H1 p2 (.tup (xs.map V.int))) H') ⟨none, none, none, rfl, Same.refl _⟩ (fun i σ H' ⟨_, _, _, _, z⟩ => ⟨z.seqT (sqT upd_same), z.seqT (s2.seqT hb1)⟩) ?_ ?_)
  · rintro i x y T σ H' hx hy ⟨y3, y4, y5, rfl, z⟩ hT
    obtain ⟨n, rfl, hn'⟩ := wint_at hx
    obtain ⟨u, v, p, hpi, rfl, hpp⟩ := (hp1.keep (same_sqT (s2.trans (z.trans (Same.new hT (.tup [V.int n, y])))))).get hy
    have hz : (xs.zip ps)[i]? = some (n, (u, v)) := by
      rw [List.getElem?_zip_eq_some]
      exact ⟨hn', hpi⟩
    have hm := List.mem_of_getElem? hpi
    obtain ⟨v0, v1⟩ := den_lt hd hm
    have hnu := hn _ hm
    have n1 := low n (List.mem_cons_of_mem _ (List.mem_of_getElem? hn'))
    refine rd_gtup (sqT upd_same) rfl ?_
    walk_at "rd"
    refine rd_gtup hpp rfl ?_
    walk_at "rd"
    have u1 : u.natAbs ≤ 1000003 := by
      have a1 : 0 ≤ u := hnu.1
      have a2 : u ≤ v := hnu.2
      have a3 : v.natAbs ≤ 1000003 := v1
      omega
    have nu : (n * u).natAbs ≤ 10 ^ 13 * 1000003 := by
      rw [Int.natAbs_mul]
      exact Nat.mul_le_mul n1 u1
    refine rd_aug rfl ?_
    walk_at "rd"
    refine rd_i (mulB_ok (Nat.lt_of_le_of_lt n1 (by decide)) (Nat.lt_of_le_of_lt u1 (by decide))) ?_
    walk_at "rd"
    refine rd_i (div40 v0 (Nat.lt_of_le_of_lt v1 (by decide))) ?_
    have hdv : ((W : Int) / v).natAbs ≤ W := by
      have a1 := Int.ediv_le_self v (show (0 : Int) ≤ W by omega)
      have a2 : 0 ≤ (W : Int) / v := Int.ediv_nonneg (by omega) (Int.le_of_lt v0)
      omega
    walk_at "rd"
    refine rd_i (mulB_ok (Nat.lt_of_le_of_lt nu (by decide)) (Nat.lt_of_le_of_lt hdv (Nat.lt_trans cW (by decide)))) ?_
    walk_at "rd"
    refine rd_ipI ?_
    refine ⟨some (.int n), some (.int u), some (.int v), ?_, z.trans (Same.new hT _)⟩
    rw [tot_more hz]
    rfl
  · rintro σ H' ⟨y3, y4, y5, rfl, z⟩
    walk_at "rd"
    have el : (xs.zip ps).take (xs.map V.int).length = xs.zip ps := by
      rw [List.length_map]
      exact List.take_of_length_le (by rw [List.length_zip, hl, Nat.min_self]; exact Nat.le_refl _)
    rw [el]
    refine ⟨_, W, rfl, by omega, hW, fun p H2 s2' h2 => q p H2 (s1.trans (s2.trans (z.trans s2'))) h2⟩
end

/-! ### tuples of whole numbers: turned, units, faces -/
def spOpp (K : PySem.W.Frag) : Sp := fun vs H Q _ => ∃ (a : Addr) (xs : List Int), vs = [.ref a] ∧ SqT K H a (xs.map V.int) ∧ xs.length ≤ 1000 ∧
  ∀ (p : Addr) (H' : Hp), Same H H' → SqT K H' p ((xs.map fun x => -x).map V.int) → Q (.ref p) H'
/-- 1 less a form -/
def oneLess (xs : List Int) : List Int := match xs with
  | [] => [] | x :: r => (1 - x) :: r.map fun y => -y
def spOneLess (K : PySem.W.Frag) : Sp := fun vs H Q _ => ∃ (a : Addr) (xs : List Int), vs = [.ref a] ∧ SqT K H a (xs.map V.int) ∧ xs ≠ [] ∧ xs.length ≤ 1000 ∧
  ∀ (p : Addr) (H' : Hp), Same H H' → SqT K H' p ((oneLess xs).map V.int) → Q (.ref p) H'
section
variable {P : Program} {w : World} {K : PySem.W.Frag} {mg : Str → Option Value} {base : Heap}
theorem sc_opposite : FnScope ["form", "number"] ["form"] (defScope s_opposite) := ⟨rfl, rfl, rfl, by decide +kernel, rfl, by decide +kernel, by decide +kernel⟩
theorem ok_opposite (T : Txt P K mg) {k : Nat} : FnOk P w K mg base CX0 (k + 1) T.f_opposite T.d_opposite ["form"] (spOpp K) := by
  refine T.F_opposite.ok sc_opposite (fun vs H Q E h => ?_) (fun cdv A outer s H vs Q E hr h => ?_)
  · obtain ⟨a, xs, rfl, _⟩ := h
    rfl
  obtain ⟨a, xs, rfl, ha, hz, q⟩ := h
  refine ⟨_, (pss_one (ps_ret (pe_callTy (tuple_ofK K) (by rfl) T.z_tuple (by decide +kernel) (pa_cons (pe_lc (own := [("number", 1)]) (g := (gName 1)) rfl sc_opposite.nd (pi_tup (pv 0)) (blkOk_by (N := ["form", "number"]) (sc := defScope s_opposite) (by decide +kernel)) (fun _ _ _ _ _ => (pg_name (i := 1) sc_opposite.nd rfl (Or.inl rfl))) (fun _ _ _ _ _ => pts_nil) (fun _ _ _ _ _ => (pe_un un_neg (pv 1)))) pa_nil)))), ?_⟩
  try dsimp only [L2.cxOf, L2.Cx.nox]
  walk_at "rd"
  refine rd_atT ha fun p4 n4 => lc_src walk_tup (fun i => (xs.map V.int).getD i .non) ?_ (fun _ => true) (fun i => V.int (-(xs.getD i 0))) (by rw [List.length_map]; omega) n4 (fun H2 z => z.seqT ha) (fun x => rfl) ?_ ?_ ?_
  · rintro i H0 x H2 hi ⟨rfl, e⟩
    rw [List.getD_eq_getElem?_getD, e]
    exact ⟨rfl, rfl⟩
  · intro i H2 R hi z r
    exact rd_yes r
  · intro i H2 R hi hf z r
    have e : (xs.map V.int).getD i .non = V.int (xs.getD i 0) := by
      rw [List.length_map] at hi
      rw [List.getD_eq_getElem?_getD, List.getD_eq_getElem?_getD, List.getElem?_map, List.getElem?_eq_getElem hi]
      rfl
    rw [e]
    walk_at "rd"
    exact r H2 (Same.refl _)
  intro H4 s4 g4
  walk_at "rd"
  refine ⟨p4, _, rfl, .inl ⟨sqL g4, fun l nl => ?_⟩⟩
  refine q l _ (s4.trans (Same.new nl _)) (sqT ?_)
  rw [upd_same]
  have e : Evl.given (xs.map V.int).length (fun _ => true) (fun i => V.int (-(xs.getD i 0))) = (xs.map fun x => -x).map V.int := by
    unfold Evl.given
    rw [List.filter_eq_self.mpr (fun _ _ => rfl), List.length_map]
    have e2 := wrange (xs.map fun x => -x)
    rw [List.length_map] at e2
    rw [← e2]
    refine List.map_congr_left fun i hi => ?_
    have hi' := List.mem_range.mp hi
    rw [List.getD_eq_getElem?_getD, List.getD_eq_getElem?_getD, List.getElem?_map, List.getElem?_eq_getElem hi']
    rfl
  rw [e]
theorem sc_one_less : FnScope ["form"] ["form"] (defScope s_one_less) := ⟨rfl, rfl, rfl, by decide +kernel, rfl, by decide +kernel, by decide +kernel⟩
theorem ok_one_less (T : Txt P K mg) {k : Nat} : FnOk P w K mg base CX0 (k + 2) T.f_one_less T.d_one_less ["form"] (spOneLess K) := by
  refine T.F_one_less.ok sc_one_less (fun vs H Q E h => ?_) (fun cdv A outer s H vs Q E hr h => ?_)
  · obtain ⟨a, xs, rfl, _⟩ := h
    rfl
  obtain ⟨a, xs, rfl, ha, hx, hz, q⟩ := h
  refine ⟨_, (pss_one (ps_ret (pe_op (op_catTK K) (pe_tup (pa_cons (pe_op op_sub pe_int (pe_ix (ix_tupK K) (pv 0) pe_int (fun _ _ => rfl))) pa_nil)) (pe_call (ok_opposite T) hr (by rfl) T.g_opposite T.F_opposite.kp T.b_opposite .nil pass0 (pa_cons (pe_slice (sl_tupK K) (pv 0) (po_some pe_int) po_none) pa_nil))))), ?_⟩
  try dsimp only [L2.cxOf, L2.Cx.nox]
  cases xs with
  | nil => exact absurd rfl hx
  | cons x r =>
    rw [List.length_cons] at hz
    walk_at "rd"
    refine rd_ixT ha (atI_nat (j := 0) rfl) ?_
    walk_at "rd"
    refine ⟨by show 1 ≤ sizeLine; decide, fun p1 n1 => ?_⟩
    have s1 := Same.new n1 (.tup [V.int (1 - x)])
    have h1 : SqT K (upd H p1 (.tup [V.int (1 - x)])) p1 [V.int (1 - x)] := sqT upd_same
    walk_at "rd"
    refine rd_tail (s1.seqT ha) fun p2 n2 => ?_
    walk_at "rd"
    refine ⟨p2, r, rfl, sqT upd_same, by omega, fun p3 H3 s3 h3 => ?_⟩
    refine rd_catT (s3.seqT ((Same.new n2 _).seqT h1)) h3 (List.cons_ne_nil _ _) (by rw [List.length_map, List.length_map]; show 1 + r.length ≤ 1000000; omega) fun p4 H4 s4 h4 => ?_
    exact q p4 H4 ((s1.trans (Same.new n2 _)).trans (s3.trans s4)) h4
def unitL (i n : Nat) : List Int := List.replicate (i + 1) 0 ++ 1 :: List.replicate (n - i - 1) 0
def spUnit (K : PySem.W.Frag) : Sp := fun vs H Q _ => ∃ i n : Nat, vs = [.int (i : Int), .int (n : Int)] ∧ i < n ∧ n ≤ 900 ∧
  ∀ (p : Addr) (H' : Hp), Same H H' → SqT K H' p ((unitL i n).map V.int) → Q (.ref p) H'
theorem sc_unit : FnScope ["place", "count"] ["place", "count"] (defScope s_unit) := ⟨rfl, rfl, rfl, by decide +kernel, rfl, by decide +kernel, by decide +kernel⟩
theorem ok_unit (T : Txt P K mg) {k : Nat} : FnOk P w K mg base CX0 (k + 1) T.f_unit T.d_unit ["place", "count"] (spUnit K) := by
  refine T.F_unit.ok sc_unit (fun vs H Q E h => ?_) (fun cdv A outer s H vs Q E hr h => ?_)
  · obtain ⟨i, n, rfl, _⟩ := h
    rfl
  obtain ⟨i, n, rfl, hi, hn, q⟩ := h
  refine ⟨_, (pss_one (ps_ret (pe_op (op_catTK K) (pe_op (op_catTK K) (pe_op (op_repK K) (pe_tup (pa_cons pe_int pa_nil)) (pe_op op_add (pv 0) pe_int)) (pe_tup (pa_cons pe_int pa_nil))) (pe_op (op_repK K) (pe_tup (pa_cons pe_int pa_nil)) (pe_op op_sub (pe_op op_sub (pv 1) (pv 0)) pe_int))))), ?_⟩
  try dsimp only [L2.cxOf, L2.Cx.nox]
  walk_at "rd"
  refine ⟨by show 1 ≤ sizeLine; decide, fun p1 n1 => ?_⟩
  have s1 := Same.new n1 (.tup [V.int 0])
  have h1 : (upd H p1 (.tup [V.int 0])) p1 = some (.tup [V.int 0]) := upd_same
  walk_at "rd"
  rw [show (i : Int) + 1 = ((i + 1 : Nat) : Int) from rfl]
  refine rd_rep1 (sqT h1) (by omega) fun p2 H2 s2 h2 => ?_
  walk_at "rd"
  refine ⟨by show 1 ≤ sizeLine; decide, fun p3 n3 => ?_⟩
  have s3 := Same.new n3 (.tup [V.int 1])
  refine rd_catT (s3.seqT h2) (sqT upd_same) (by rw [List.replicate_succ]; exact List.cons_ne_nil _ _) (by rw [List.length_replicate]; show i + 1 + 1 ≤ 1000000; omega) fun p4 H4 s4 h4 => ?_
  walk_at "rd"
  refine ⟨by show 1 ≤ sizeLine; decide, fun p5 n5 => ?_⟩
  have s5 := Same.new n5 (.tup [V.int 0])
  walk_at "rd"
  rw [show (n : Int) - i - 1 = ((n - i - 1 : Nat) : Int) by omega]
  refine rd_rep1 (sqT upd_same) (by omega) fun p6 H6 s6 h6 => ?_
  refine rd_catT (s6.seqT (s5.seqT h4)) h6 (fun z => by simp at z) (by rw [List.length_append, List.length_replicate, List.length_replicate]; show i + 1 + 1 + _ ≤ 1000000; omega) fun p7 H7 s7 h7 => ?_
  refine q p7 H7 ((((((s1.trans s2).trans s3).trans s4).trans s5).trans s6).trans s7) ?_
  have e : (unitL i n).map V.int = List.replicate (i + 1) (V.int 0) ++ [V.int 1] ++ List.replicate (n - i - 1) (V.int 0) := by
    unfold unitL
    rw [List.map_append, List.map_replicate, List.map_cons, List.map_replicate, List.append_assoc]
    rfl
  rw [e]
  exact h7
theorem len_unit {i n : Nat} (h : i < n) : (unitL i n).length = n + 1 := by
  unfold unitL
  rw [List.length_append, List.length_replicate, List.length_cons, List.length_replicate]
  omega
theorem sc_not_form : FnScope ["form"] ["form"] (defScope s_not_form) := ⟨rfl, rfl, rfl, by decide +kernel, rfl, by decide +kernel, by decide +kernel⟩
theorem ok_not_form (T : Txt P K mg) {k : Nat} : FnOk P w K mg base CX0 (k + 3) T.f_not_form T.d_not_form ["form"] (spOneLess K) := by
  refine T.F_not_form.ok sc_not_form (fun vs H Q E h => ?_) (fun cdv A outer s H vs Q E hr h => ?_)
  · obtain ⟨a, xs, rfl, _⟩ := h
    rfl
  obtain ⟨a, xs, rfl, ha, hx, hz, q⟩ := h
  refine ⟨_, (pss_one (ps_ret (pe_call (ok_one_less T) hr (by rfl) T.g_one_less T.F_one_less.kp T.b_one_less .nil pass0 (pa_cons (pv 0) pa_nil)))), ?_⟩
  try dsimp only [L2.cxOf, L2.Cx.nox]
  walk_at "rd"
  exact ⟨a, xs, rfl, ha, hx, hz, fun p H' s h => q p H' s h⟩
/-- rows of whole numbers -/
inductive RowsAt (K : PySem.W.Frag) (H : Hp) : List (List Int) → List V → Prop
  | nil : RowsAt K H [] []
  | cons {l : List Int} {p : Addr} {ls : List (List Int)} {vs : List V} : SqT K H p (l.map V.int) → RowsAt K H ls vs → RowsAt K H (l :: ls) (.ref p :: vs)
theorem RowsAt.keep {H H' : Hp} (h : ∀ p xs, SqT K H p xs → SqT K H' p xs) : ∀ {ls : List (List Int)} {vs : List V}, RowsAt K H ls vs → RowsAt K H' ls vs
  | _, _, .nil => .nil
  | _, _, .cons a b => .cons (h _ _ a) (b.keep h)
theorem RowsAt.append {H : Hp} : ∀ {ls ms : List (List Int)} {vs ws : List V}, RowsAt K H ls vs → RowsAt K H ms ws → RowsAt K H (ls ++ ms) (vs ++ ws)
  | _, _, _, _, .nil, b => b
  | _, _, _, _, .cons a r, b => .cons a (r.append b)
theorem RowsAt.length {H : Hp} : ∀ {ls : List (List Int)} {vs : List V}, RowsAt K H ls vs → ls.length = vs.length
  | _, _, .nil => rfl
  | _, _, .cons a b => congrArg Nat.succ b.length
theorem RowsAt.get {H : Hp} : ∀ {ls : List (List Int)} {vs : List V} {i : Nat} {v : V}, RowsAt K H ls vs → vs[i]? = some v → ∃ l p, ls[i]? = some l ∧ v = .ref p ∧ SqT K H p (l.map V.int)
  | _, _, i, v, .nil, e => by simp at e
  | _, _, 0, v, .cons a b, e => by
    obtain rfl := Option.some.inj e
    exact ⟨_, _, rfl, rfl, a⟩
  | _, _, i + 1, v, .cons a b, e => b.get (i := i) e
theorem RowsAt.dp {H : Hp} : ∀ {ls : List (List Int)} {vs : List V}, RowsAt K H ls vs → DpAll K H vs (ls.map fun l => .tuple (l.map PyData.int))
  | _, _, .nil => .nil
  | _, _, .cons a b => .cons (.tup a (dp_ints K H _)) b.dp
def facesL (n : Nat) : Nat → List (List Int)
  | 0 => []
  | i + 1 => facesL n i ++ [unitL i n, oneLess (unitL i n)]
def spFaces (K : PySem.W.Frag) : Sp := fun vs H Q _ => ∃ n : Nat, vs = [.int (n : Int)] ∧ n ≤ 100 ∧
  ∀ (p : Addr) (ws : List V) (H' : Hp), Same H H' → H' p = some (.tup ws) → RowsAt K H' (facesL n n) ws → Q (.ref p) H'
theorem upd_sqT {H : Hp} {d : Addr} {xs ys : List V} (hd : H d = some (.lst xs)) : ∀ p us, SqT K H p us → SqT K (upd H d (.lst ys)) p us := fun p us h => by
  rcases h with (h | ⟨o, h⟩) | h
  · exact .inl (.inl (by rw [upd_ne (ne_of h hd (fun z => nomatch z))]; exact h))
  · exact .inl (.inr ⟨o, by rw [upd_ne (ne_of h hd (fun z => nomatch z))]; exact h⟩)
  · exact .inr h
theorem sc_faces : FnScope ["count", "found", "place"] ["count"] (defScope s_faces) := ⟨rfl, rfl, rfl, by decide +kernel, rfl, by decide +kernel, by decide +kernel⟩
theorem ok_faces (T : Txt P K mg) {k : Nat} : FnOk P w K mg base CX0 (k + 3) T.f_faces T.d_faces ["count"] (spFaces K) := by
  refine T.F_faces.ok sc_faces (fun vs H Q E h => ?_) (fun cdv A outer s H vs Q E hr h => ?_)
  · obtain ⟨n, rfl, _⟩ := h
    rfl
  obtain ⟨n, rfl, hn, q⟩ := h
  refine ⟨_, (pss_cons (ps_set (i := 1) sc_faces.nd rfl (Or.inl rfl) (pe_lst pa_nil))
    (pss_cons (ps_for PassesOwn.never rfl (pi_range1 rfl T.z_range (pa_cons (pv 0) pa_nil)) (pg_name (i := 2) sc_faces.nd rfl (Or.inl rfl)) (pss_cons (ps_expr (pe_bm PySem.F.plainAttrs_list PySem.F.slot_list_append PySem.F.type_list_append mt_append (pv 1) (pa_cons (pe_call (ok_unit T) hr (by rfl) T.g_unit T.F_unit.kp T.b_unit .nil pass0 (pa_cons (pv 2) (pa_cons (pv 0) pa_nil))) pa_nil)))
    (pss_one (ps_expr (pe_bm PySem.F.plainAttrs_list PySem.F.slot_list_append PySem.F.type_list_append mt_append (pv 1) (pa_cons (pe_call (ok_one_less T) hr (by rfl) T.g_one_less T.F_one_less.kp T.b_one_less .nil pass0 (pa_cons (pe_call (ok_unit T) hr (by rfl) T.g_unit T.F_unit.kp T.b_unit .nil pass0 (pa_cons (pv 2) (pa_cons (pv 0) pa_nil))) pa_nil)) pa_nil))))))
    (pss_one (ps_ret (pe_callTy (tuple_ofK K) (by rfl) T.z_tuple (by decide +kernel) (pa_cons (pv 1) pa_nil)))))), ?_⟩
  try dsimp only [L2.cxOf, L2.Cx.nox]
  walk_at "rd"
  refine ⟨Nat.zero_le _, fun d nd => ?_⟩
  walk_at "rd"
  refine rd_atR (by omega) (by omega) (forR (n := n) (lo := 0) (fun i σ H' => ∃ (y : Option V) (ws : List V), σ = [some (.int (n : Int)), some (.ref d), y] ∧ Same H H' ∧ H' d = some (.lst ws) ∧ RowsAt K H' (facesL n i) ws ∧ ws.length = 2 * i)
    ⟨none, [], rfl, Same.new nd _, upd_same, .nil, rfl⟩ ?_ ?_)
  · rintro i σ H1 hi ⟨y, ws, rfl, s1, h1, r1, l1⟩
    walk_at "rd"
    refine rd_tyL (sqL h1) ?_
    walk_at "rd"
    refine ⟨i, n, by rw [Int.zero_add]; rfl, hi, by omega, fun p2 H2 s2 h2 => ?_⟩
    walk_at "rd"
    have g2 := s2 _ _ h1
    refine rd_append g2 (by omega) ?_
    have k3 := upd_sqT (K := K) (ys := ws ++ [V.ref p2]) g2
    have g3 : (upd H2 d (.lst (ws ++ [V.ref p2]))) d = some (.lst (ws ++ [V.ref p2])) := upd_same
    have r3 := (r1.keep (same_sqT s2)).keep k3
    have h3 := k3 _ _ h2
    have s3 : Same H (upd H2 d (.lst (ws ++ [V.ref p2]))) := (s1.trans s2).put nd _
    generalize upd H2 d (.lst (ws ++ [V.ref p2])) = H3 at g3 r3 h3 s3
    walk_at "rd"
    refine rd_tyL (sqL g3) ?_
    walk_at "rd"
    refine ⟨i, n, by rw [Int.zero_add]; rfl, hi, by omega, fun p4 H4 s4 h4 => ?_⟩
    walk_at "rd"
    have lu := len_unit hi
    refine ⟨p4, _, rfl, h4, (fun z => by rw [z] at lu; cases lu), by omega, fun p5 H5 s5 h5 => ?_⟩
    walk_at "rd"
    have g5 := s5 _ _ (s4 _ _ g3)
    refine rd_append g5 (by rw [List.length_append]; show ws.length + 1 < 1000000; omega) ?_
    have k6 := upd_sqT (K := K) (ys := (ws ++ [V.ref p2]) ++ [V.ref p5]) g5
    refine ⟨_, ws ++ [V.ref p2, V.ref p5], rfl, (s3.trans (s4.trans s5)).put nd _, ?_, ?_, ?_⟩
    · rw [upd_same, List.append_assoc]
      rfl
    · exact ((r3.keep (same_sqT (s4.trans s5))).keep k6).append (.cons (k6 _ _ ((s4.trans s5).seqT h3)) (.cons (k6 _ _ h5) .nil))
    · rw [List.length_append, l1]
      rfl
  · rintro σ H1 ⟨y, ws, rfl, s1, h1, r1, l1⟩
    walk_at "rd"
    refine ⟨d, ws, rfl, .inl ⟨sqL h1, fun p np => ?_⟩⟩
    exact q p ws _ (s1.trans (Same.new np _)) upd_same (r1.keep (same_sqT (Same.new np _)))
end

/-! ### the form of a name -/
def spName (K : PySem.W.Frag) (C : Addr) : Sp := fun vs H Q E => ∃ (a : Addr) (fs : List Str) (x : Str) (ob : Obj), vs = [.ref a, .str x] ∧ H a = some (.frz ob (.tup (fs.map V.str))) ∧ ob.dict = none ∧ fs.length ≤ 900 ∧
  ((∃ j : Nat, fs[j]? = some x ∧ (∀ m, m < j → fs[m]? ≠ some x) ∧ ∀ (p : Addr) (H' : Hp), Same H H' → SqT K H' p ((unitL j fs.length).map V.int) → Q (.ref p) H') ∨
    (x ∉ fs ∧ ∀ (d : Addr) (H' : Hp), Same H H' → H' d = some (.xd [("name", .str x)]) → E (.ref C) (some d) H'))
theorem rd_notIn {K : PySem.W.Frag} {H : Hp} {Q : VK} {a : Addr} {x : V} {xs : List V} (hs : SqL K H a xs ∨ SqT K H a xs) (hx : flatV x = true) (hf : xs.all flatV = true) {b : Bool} (hb : inV x xs = b) (h : Q (.bl (!b)) H) : rIn K true x (.ref a) H Q := by
  refine ⟨a, xs, rfl, hs, hx, hf, ?_⟩
  rw [hb]
  exact h
section
variable {P : Program} {w : World} {K : PySem.W.Frag} {mg : Str → Option Value} {base : Heap}
theorem sc_name_form : FnScope ["names", "name"] ["names", "name"] (defScope s_name_form) := ⟨rfl, rfl, rfl, by decide +kernel, rfl, by decide +kernel, by decide +kernel⟩
theorem ok_name_form (T : Txt P K mg) {k : Nat} : FnOk P w K mg base (L2.CX P w) (k + 3) T.f_name_form T.d_name_form ["names", "name"] (spName K T.C_UnknownName) := by
  refine T.F_name_form.okX sc_name_form (fun vs H Q E h => ?_) (fun cdv A outer s H vs Q E hr h => ?_)
  · obtain ⟨a, fs, x, ob, rfl, _⟩ := h
    rfl
  obtain ⟨a, fs, x, ob, rfl, hob, hdn, hl, q⟩ := h
  have ha : SqT K H a (fs.map V.str) := .inl (.inr ⟨ob, hob⟩)
  refine ⟨_, (pss_cons (ps_if (pt_cmpR (notIn_seqK K) (pv 1) (pv 0) (by rfl)) (pss_one (ps_raise rfl (takes_of rfl rfl rfl rfl) (pmk_oex T.o_UnknownName T.i_UnknownName T.t_UnknownName (ok_UnknownName_init T) hr T.b_UnknownName_init .nil pass0 (by rfl) T.m_UnknownName (pa_cons (pv 1) pa_nil)))) pss_nil)
    (pss_one (ps_ret (pe_call (ok_unit T) hr (by rfl) T.g_unit T.F_unit.kp T.b_unit .nil pass0 (pa_cons (pe_bmF PySem.F.plainAttrs_tuple PySem.F.slot_tuple_index PySem.F.type_tuple_index (tup_indexK K) (pv 0) (pa_cons (pv 1) pa_nil)) (pa_cons (pe_callB (len_seqK K) (by rfl) T.z_len (by decide +kernel) (pa_cons (pv 0) pa_nil)) pa_nil)))))), ?_⟩
  try dsimp only [L2.cxOf, L2.Cx.nox]
  walk_at "rd"
  refine rd_notIn (.inr ha) rfl (Gd.flat_strs fs) (inV_strs x fs) ?_
  rcases q with ⟨j, hj, hno, q⟩ | ⟨hno, q⟩
  · rw [decide_eq_true (List.mem_of_getElem? hj)]
    walk_at "rd"
    refine iteF ?_
    have hjl : j < fs.length := (List.getElem?_eq_some_iff.mp hj).1
    walk_at "rd"
    refine rd_bmF ?_
    walk_at "rd"
    refine ⟨⟨a, ob, _, rfl, hob, hdn⟩, ?_⟩
    walk_at "rd"
    refine ⟨a, fs, x, j, rfl, rfl, ha, hj, hno, ?_⟩
    walk_at "rd"
    refine rd_len (.inr ha) ?_
    walk_at "rd"
    rw [List.length_map]
    exact ⟨j, fs.length, rfl, hjl, hl, fun p H' s h => q p H' s h⟩
  · rw [decide_eq_false hno]
    walk_at "rd"
    refine iteT (rd_mko ?_)
    walk_at "rd"
    exact rd_raise fun d H' s' _ h => q d H' s' h
end

/-! ### sums of multiples -/
def addM (m : Int) (t xs : List Int) : List Int := List.zipWith (fun e x => e + m * x) t xs
def sumM (n : Nat) (ls : List (List Int × Int)) : List Int := ls.foldl (fun t p => addM p.2 t p.1) (List.replicate n 0)
theorem sumM_more {n : Nat} {ls : List (List Int × Int)} {i : Nat} {p : List Int × Int} (h : ls[i]? = some p) : sumM n (ls.take (i + 1)) = addM p.2 (sumM n (ls.take i)) p.1 := by
  unfold sumM
  rw [List.take_add_one, h, List.foldl_append]
  rfl
theorem addM_zero : ∀ (t xs : List Int), t.length = xs.length → addM 0 t xs = t
  | [], xs, _ => by unfold addM; rw [List.zipWith_nil_left]
  | x :: t, [], h => by cases h
  | x :: t, y :: xs, h => by
    have ih := addM_zero t xs (by simpa using h)
    unfold addM at ih ⊢
    rw [List.zipWith_cons_cons, ih, Int.zero_mul, Int.add_zero]
/-- forms of one length, with numbers that are not too great -/
def FormsOk (n : Nat) (ls : List (List Int)) : Prop := ∀ l ∈ ls, l.length = n ∧ Low (10 ^ 13) l
theorem sumM_len {n : Nat} {ls : List (List Int × Int)} (h : ∀ p ∈ ls, p.1.length = n) : (sumM n ls).length = n := by
  suffices g : ∀ (ls : List (List Int × Int)) (t : List Int), t.length = n → (∀ p ∈ ls, p.1.length = n) → (ls.foldl (fun t p => addM p.2 t p.1) t).length = n from g ls _ (List.length_replicate ..) h
  intro ls
  induction ls with
  | nil => intro t ht _; exact ht
  | cons p r ih =>
    intro t ht hp
    refine ih _ ?_ fun q m => hp q (List.mem_cons_of_mem _ m)
    unfold addM
    rw [List.length_zipWith, ht, hp p (List.mem_cons_self ..), Nat.min_self]
def spSummed (K : PySem.W.Frag) : Sp := fun vs H Q _ => ∃ (a b : Addr) (ws : List V) (ls : List (List Int)) (ms : List Int) (n : Nat), vs = [.ref a, .ref b] ∧ SqT K H a ws ∧ RowsAt K H ls ws ∧ SqT K H b (ms.map V.int) ∧ ls.length = ms.length ∧ ls ≠ [] ∧ ls.length ≤ 100 ∧ n ≤ 900 ∧
  FormsOk n ls ∧ Low (10 ^ 13) ms ∧ ∀ (p : Addr) (H' : Hp), Same H H' → H' p = some (.tup ((sumM n (ls.zip ms)).map V.int)) → Q (.ref p) H'
section
variable {P : Program} {w : World} {K : PySem.W.Frag} {mg : Str → Option Value} {base : Heap}
theorem sc_summed : FnScope ["forms", "multiples", "total", "form", "multiple", "entry", "number"] ["forms", "multiples"] (defScope s_summed) := ⟨rfl, rfl, rfl, by decide +kernel, rfl, by decide +kernel, by decide +kernel⟩
theorem ok_summed (T : Txt P K mg) {k : Nat} : FnOk P w K mg base CX0 (k + 1) T.f_summed T.d_summed ["forms", "multiples"] (spSummed K) := by
  refine T.F_summed.ok sc_summed (fun vs H Q E h => ?_) (fun cdv A outer s H vs Q E hr h => ?_)
  · obtain ⟨a, b, ws, ls, ms, n, rfl, _⟩ := h
    rfl
  obtain ⟨a, b, ws, ls, ms, n, rfl, ha, hls, hb, hl, hne, h100, hn, fok, lowm, q⟩ := h
  refine ⟨_, (pss_cons (ps_set (i := 2) sc_summed.nd rfl (Or.inl rfl) (pe_op op_rep (pe_lst (pa_cons pe_int pa_nil)) (pe_callB (len_seqK K) (by rfl) T.z_len (by decide +kernel) (pa_cons (pe_ix (ix_tupK K) (pv 0) pe_int (fun _ _ => rfl)) pa_nil))))
    (pss_cons (ps_for PassesOwn.never rfl (RZ.pi_zipA (by rfl) T.z_zip (pa_cons (pv 0) (pa_cons (pv 1) pa_nil))) (pg_tup rfl (pgs_cons (pg_name (i := 3) sc_summed.nd rfl (Or.inl rfl)) (pgs_cons (pg_name (i := 4) sc_summed.nd rfl (Or.inr rfl)) pgs_nil))) (pss_one (ps_if (pt_cmpR op_ne (pv 4) pe_int (by rfl)) (pss_one (ps_setLc (i := 2) (own := [("entry", 5), ("number", 6)]) (g := (gTup K 2 (gCons (gName 5) (gCons (gName 6) gNil)))) rfl sc_summed.nd rfl rfl (sw_true rfl rfl rfl (by decide +kernel)) (pi_zipM (by rfl) T.z_zip (pa_cons (pv 2) (pa_cons (pv 3) pa_nil))) (blkOk_by (N := ["forms", "multiples", "total", "form", "multiple", "entry", "number"]) (sc := defScope s_summed) (by decide +kernel)) (fun _ _ _ _ _ => (pg_tup rfl (pgs_cons (pg_name (i := 5) sc_summed.nd rfl (Or.inl rfl)) (pgs_cons (pg_name (i := 6) sc_summed.nd rfl (Or.inl rfl)) pgs_nil)))) (fun _ _ _ _ _ => pts_nil) (fun _ _ _ _ _ => (pe_op op_add (pv 5) (pe_op op_mulB (pv 4) (pv 6)))))) pss_nil)))
    (pss_one (ps_ret (pe_callTy (tuple_ofK K) (by rfl) T.z_tuple (by decide +kernel) (pa_cons (pv 2) pa_nil)))))), ?_⟩
  try dsimp only [L2.cxOf, L2.Cx.nox]
  walk_at "rd"
  refine ⟨by show 1 ≤ sizeLine; decide, fun p1 n1 => ?_⟩
  have s1 := Same.new n1 (.lst [V.int 0])
  have g1 : (upd H p1 (.lst [V.int 0])) p1 = some (.lst [V.int 0]) := upd_same
  generalize upd H p1 (.lst [V.int 0]) = H1 at s1 g1
  have ha1 := s1.seqT ha
  have hb1 := s1.seqT hb
  have hls1 := hls.keep (same_sqT s1)
  obtain ⟨w0, hw0⟩ : ∃ w0, ws[0]? = some w0 := by
    have := hls.length
    have h0 := List.length_pos_iff.mpr hne
    exact ⟨ws[0], List.getElem?_eq_getElem (by omega)⟩
  obtain ⟨l0, q0, e0, rfl, h0⟩ := hls1.get hw0
  have len0 := (fok l0 (List.mem_of_getElem? e0)).1
  walk_at "rd"
  refine rd_ixT ha1 (atI_nat (j := 0) hw0) ?_
  walk_at "rd"
  refine rd_len (.inr h0) ?_
  rw [List.length_map, len0]
  refine ⟨p1, (n : Int), _, rfl, rfl, g1, by omega, by omega, by rw [Int.toNat_natCast, sizeLine_eq]; show 1 * n ≤ _; omega, fun t0 nt0 => ?_⟩
  rw [Int.toNat_natCast, rep_one]
  have s2 := s1.trans (Same.new nt0 (.lst (List.replicate n (V.int 0))))
  have g2 : (upd H1 t0 (.lst (List.replicate n (V.int 0)))) t0 = some (.lst ((List.replicate n (0 : Int)).map V.int)) := by rw [upd_same, List.map_replicate]
  generalize upd H1 t0 (.lst (List.replicate n (V.int 0))) = H2 at s2 g2
  have ha2 := s2.seqT ha
  have hb2 := s2.seqT hb
  have hls2 := hls.keep (same_sqT s2)
  walk_at "rd"
  refine rd_atZ ha2 hb2 (forZ (xs := ws) (ys := ms.map V.int) (by rw [← hls.length, hl, List.length_map]) (fun i σ H' => ∃ (t : Addr) (y3 y4 : Option V), σ = [some (.ref a), some (.ref b), some (.ref t), y3, y4, none, none] ∧ Same H2 H' ∧
    H' t = some (.lst ((sumM n ((ls.zip ms).take i)).map V.int))) ⟨t0, none, none, rfl, Same.refl _, by rw [List.take_zero]; exact g2⟩ (fun i σ H' ⟨_, _, _, _, z, _⟩ => ⟨z.seqT ha2, z.seqT hb2⟩) ?_ ?_)
  · rintro i x y T σ H3 hx hy ⟨t, y3, y4, rfl, z, ht⟩ hT
    obtain ⟨m, rfl, hm⟩ := wint_at hy
    have s4 := Same.new hT (.tup [x, V.int m])
    obtain ⟨l, p, hl', rfl, hp⟩ := (hls2.keep (same_sqT (z.trans s4))).get hx
    have hz : (ls.zip ms)[i]? = some (l, m) := by
      rw [List.getElem?_zip_eq_some]
      exact ⟨hl', hm⟩
    have hfo := fok l (List.mem_of_getElem? hl')
    have hml := lowm m (List.mem_of_getElem? hm)
    have ht4 := s4 _ _ ht
    have lens : (sumM n ((ls.zip ms).take i)).length = n := sumM_len fun p hp => by
      have := List.mem_of_mem_take hp
      exact (fok p.1 (List.of_mem_zip this).1).1
    refine rd_gtup (sqT upd_same) rfl ?_
    generalize upd H3 T (.tup [V.ref p, V.int m]) = H4 at s4 ht4 hp
    walk_at "rd"
    refine rd_bool (fun c => ?_) (fun c => ?_)
    · walk_at "rd"
      refine rd_iZM ?_
      walk_at "rd"
      refine rd_atM (sqL ht4) hp fun D nD => lc_zipM (fun i' => V.int ((addM m (sumM n ((ls.zip ms).take i)) l).getD i' 0)) (by rw [List.length_map, List.length_map, lens, hfo.1]) (by rw [List.length_map, lens]; omega) nD ht4 hp (fun x y => rfl) ?_ fun H5 s5 g5 => ?_
      · intro i' x' y' H' R hx' hy' z' r
        obtain ⟨u, rfl, hu⟩ := wint_at hx'
        obtain ⟨v, rfl, hv⟩ := wint_at hy'
        have lv := hfo.2 v (List.mem_of_getElem? hv)
        walk_at "rd"
        refine rd_i (mulB_ok (Nat.lt_of_le_of_lt hml (by decide)) (Nat.lt_of_le_of_lt lv (by decide))) ?_
        walk_at "rd"
        have r' := r H' (Same.refl _)
        unfold addM at r'
        rw [wzip_at _ hu hv] at r'
        exact r'
      · have e : (List.range ((sumM n ((ls.zip ms).take i)).map V.int).length).map (fun i' => V.int ((addM m (sumM n ((ls.zip ms).take i)) l).getD i' 0)) = (addM m (sumM n ((ls.zip ms).take i)) l).map V.int := by
          rw [List.length_map]
          exact wrange_zip _ (by rw [lens, hfo.1])
        rw [e] at g5
        refine ⟨D, _, _, rfl, (z.trans s4).trans s5, ?_⟩
        rw [sumM_more hz]
        exact g5
    · walk_at "rd"
      have m0 : m = 0 := by
        by_cases h : V.int m = V.int 0
        · exact V.int.inj h
        · rw [decide_eq_false h] at c
          cases c
      subst m0
      refine ⟨t, _, _, rfl, z.trans s4, ?_⟩
      rw [sumM_more hz, addM_zero _ _ (by rw [lens, hfo.1])]
      exact ht4
  · rintro σ H3 ⟨t, y3, y4, rfl, z, ht⟩
    walk_at "rd"
    have el : (ls.zip ms).take ws.length = ls.zip ms := List.take_of_length_le (by rw [List.length_zip, hl, Nat.min_self, ← hl, hls.length]; exact Nat.le_refl _)
    rw [el] at ht
    refine ⟨t, _, rfl, .inl ⟨sqL ht, fun p np => ?_⟩⟩
    exact q p _ (s2.trans (z.trans (Same.new np _))) upd_same
end

/-! ### the law's own lowest terms -/
section
variable {P : Program} {w : World} {K : PySem.W.Frag} {mg : Str → Option Value} {base : Heap}
theorem sc_law_lowest : FnScope ["above", "below", "one", "two"] ["above", "below"] (defScope s_law_lowest) := ⟨rfl, rfl, rfl, by decide +kernel, rfl, by decide +kernel, by decide +kernel⟩
theorem ok_law_lowest (T : Txt P K mg) {k : Nat} : FnOk P w K mg base CX0 (k + 1) T.f_law_lowest T.d_law_lowest ["above", "below"] spLow := by
  refine T.F_law_lowest.ok sc_law_lowest (fun vs H Q E h => ?_) (fun cdv A outer s H vs Q E hr h => ?_)
  · obtain ⟨a, b, rfl, _⟩ := h
    rfl
  obtain ⟨a, b, rfl, h0, hb, q⟩ := h
  refine ⟨_, (pss_cons (ps_par (i := 2) (j := 3) (by rfl) sc_law_lowest.nd rfl rfl (by decide) rfl rfl (pa_cons (pe_callB call_abs (by rfl) T.z_abs (by decide +kernel) (pa_cons (pv 0) pa_nil)) (pa_cons (pv 1) pa_nil)) (by rfl))
    (pss_cons (ps_while PassesOwn.never (pt_cmpR op_gt (pv 3) pe_int (by rfl)) (pss_one (ps_par (i := 2) (j := 3) (by rfl) sc_law_lowest.nd rfl rfl (by decide) rfl rfl (pa_cons (pv 3) (pa_cons (pe_op op_mod (pe_callTy call_int1 (by rfl) T.z_int (by decide +kernel) (pa_cons (pv 2) pa_nil)) (pv 3)) pa_nil)) (by rfl))))
    (pss_one (ps_ret (pe_tup (pa_cons (pe_op op_fdivW (pv 0) (pv 2)) (pa_cons (pe_op op_fdivW (pv 1) (pv 2)) pa_nil))))))), ?_⟩
  try dsimp only [L2.cxOf, L2.Cx.nox]
  have g0 := gcd_pos (a := a) h0
  have g1 := gcd_le (a := a) h0
  have ea : (if a < 0 then -a else a) = ((a.natAbs : Nat) : Int) := by
    split <;> omega
  walk_at "rd"
  refine ⟨_, rfl, ?_⟩
  rw [ea]
  walk_at "rd"
  refine rd_while (fun m σ H' => ∃ one two : Nat, m = two ∧ H' = H ∧ σ = [some (.int a), some (.int b), some (.int (one : Int)), some (.int (two : Int))] ∧ Nat.gcd one two = Int.gcd a b) b.toNat ?_ ?_
  · refine ⟨a.natAbs, b.toNat, rfl, rfl, ?_, ?_⟩
    · rw [Int.toNat_of_nonneg (by omega)]
      rfl
    · show Nat.gcd a.natAbs b.toNat = Nat.gcd a.natAbs b.natAbs
      rw [show b.toNat = b.natAbs by omega]
  · rintro m σ H' ⟨one, two, rfl, rfl, rfl, hg⟩
    walk_at "rd"
    refine rd_two (fun c => ?_) (fun c => ?_)
    · have hm : 0 < m := by omega
      refine ⟨_, fun _ _ z => z, ?_⟩
      walk_at "rd"
      refine ⟨one % m, Nat.mod_lt _ hm, m, one % m, rfl, rfl, rfl, ?_⟩
      rw [Nat.gcd_comm, ← hg, Nat.gcd_comm one m]
      exact (Nat.gcd_rec m one).symm
    · have hm : m = 0 := by omega
      subst hm
      rw [Nat.gcd_zero_right] at hg
      subst hg
      walk_at "rd"
      refine rd_i (div40 (by omega) (by omega)) ?_
      walk_at "rd"
      refine rd_i (div40 (by omega) (by omega)) ?_
      walk_at "rd"
      refine ⟨by show 2 ≤ sizeLine; decide, fun p np => ?_⟩
      exact q p _ (Same.new np _) upd_same
end

/-! ### the draws -/
/-- at m stands a state from which at most n draws by place were made -/
def MAt (H : Hp) (m : Addr) (n : Nat) : Prop := ∃ (l s p : Int) (c : Addr) (cs : List Int), H m = some (.dK (mk l s c p)) ∧ H c = some (.lst (cs.map V.int)) ∧
  cs ≠ [] ∧ cs.length ≤ 200 ∧ 0 ≤ l ∧ 0 ≤ s ∧ s < 2147483647 ∧ 0 ≤ p ∧ p ≤ (n : Int)
theorem MAt.mono {H : Hp} {m : Addr} {n k : Nat} (h : MAt H m n) (q : n ≤ k) : MAt H m k := by
  obtain ⟨l, s, p, c, cs, a1, a2, a3, a4, a5, a6, a7, a8, a9⟩ := h
  exact ⟨l, s, p, c, cs, a1, a2, a3, a4, a5, a6, a7, a8, by omega⟩
theorem MAt.same {H H' : Hp} {m : Addr} {n : Nat} (h : MAt H m n) (q : Same H H') : MAt H' m n := by
  obtain ⟨l, s, p, c, cs, a1, a2, r⟩ := h
  exact ⟨l, s, p, c, cs, q _ _ a1, q _ _ a2, r⟩
theorem MAt.dict {H : Hp} {m : Addr} {n : Nat} (h : MAt H m n) : ∃ kvs, H m = some (.dK kvs) := by
  obtain ⟨l, s, p, c, cs, a1, _⟩ := h
  exact ⟨_, a1⟩
theorem MAt.tup {H H' : Hp} {m p : Addr} {n : Nat} {xs : List V} (h : MAt H m n) (k : Kp m H H') (e : H p = some (.tup xs)) : H' p = some (.tup xs) := by
  obtain ⟨kvs, hm⟩ := h.dict
  exact k.get e hm (fun z => nomatch z)
theorem MAt.lst {H H' : Hp} {m p : Addr} {n : Nat} {xs : List V} (h : MAt H m n) (k : Kp m H H') (e : H p = some (.lst xs)) : H' p = some (.lst xs) := by
  obtain ⟨kvs, hm⟩ := h.dict
  exact k.get e hm (fun z => nomatch z)
def spDraw : Sp := fun vs H Q _ => ∃ (m : Addr) (n : Nat) (below : Int), vs = [.ref m, .int below] ∧ MAt H m n ∧ n ≤ 1000000 ∧ 0 < below ∧ below < 2 ^ 1000 ∧
  ∀ (r : Int) (H' : Hp), 0 ≤ r → r < below → Kp m H H' → MAt H' m (n + 1) → Q (.int r) H'
/-- the list of the cells of the state at m -/
def Cel (H : Hp) (m c : Addr) : Prop := ∃ l s p : Int, H m = some (.dK (mk l s c p))
theorem Cel.eq {H : Hp} {m c d : Addr} {l s p : Int} (h : Cel H m d) (e : H m = some (.dK (mk l s c p))) : c = d := by
  obtain ⟨l', s', p', e'⟩ := h
  rw [e] at e'
  have e2 := HO.dK.inj (Option.some.inj e')
  unfold mk at e2
  simp only [List.cons.injEq, Prod.mk.injEq, V.ref.injEq] at e2
  exact e2.2.2.1.2
theorem MAt.cel {H : Hp} {m : Addr} {n : Nat} (h : MAt H m n) : ∃ c, Cel H m c ∧ (∃ o, H c = some o) := by
  obtain ⟨l, s, p, c, cs, a1, a2, _⟩ := h
  exact ⟨c, ⟨l, s, p, a1⟩, _, a2⟩
theorem MAt.upd {H : Hp} {m c a : Addr} {n : Nat} (h : MAt H m n) (hc : Cel H m c) (h1 : a ≠ m) (h2 : a ≠ c) (o : HO) : MAt (upd H a o) m n := by
  obtain ⟨l, s, p, c', cs, a1, a2, r⟩ := h
  obtain rfl := hc.eq a1
  exact ⟨l, s, p, c', cs, by rw [upd_ne (Ne.symm h1)]; exact a1, by rw [upd_ne (Ne.symm h2)]; exact a2, r⟩
def spDrawC : Sp := fun vs H Q _ => ∃ (m : Addr) (n : Nat) (below : Int), vs = [.ref m, .int below] ∧ MAt H m n ∧ n ≤ 1000000 ∧ 0 < below ∧ below < 2 ^ 1000 ∧
  ∀ (r : Int) (H' : Hp), 0 ≤ r → r < below → Kp m H H' → MAt H' m (n + 1) → (∀ c, Cel H m c → Cel H' m c) → Q (.int r) H'
theorem FnOk_weak {P : Program} {w : World} {K : PySem.W.Frag} {mg : Str → Option Value} {base : Heap} {CX : CXT} {k : Nat} {f : Addr} {fd : FuncData} {ps : List Str} {sp sp' : Sp} (F : FnOk P w K mg base CX k f fd ps sp) (h : ∀ vs H Q E, sp' vs H Q E → sp vs H Q E) : FnOk P w K mg base CX k f fd ps sp' :=
  ⟨fun vs H Q E z => F.len vs H Q E (h vs H Q E z), fun A outer s H args us vs Q E hr e0 hb r z => F.run A outer s H args us vs Q E hr e0 hb r (h vs H Q E z)⟩
section
variable {P : Program} {w : World} {K : PySem.W.Frag} {mg : Str → Option Value} {base : Heap}
theorem sc_law_draw : FnScope ["m", "below", "found", "spot", "cells", "added", "cell", "blend"] ["m", "below"] (defScope s_law_draw) := ⟨rfl, rfl, rfl, by decide +kernel, rfl, by decide +kernel, by decide +kernel⟩
theorem ok_law_drawC (T : Txt P K mg) {k : Nat} : FnOk P w K mg base CX0 (k + 1) T.f_law_draw T.d_law_draw ["m", "below"] spDrawC := by
  refine T.F_law_draw.ok sc_law_draw (fun vs H Q E h => ?_) (fun cdv A outer s H vs Q E hr h => ?_)
  · obtain ⟨m, n, below, rfl, _⟩ := h
    rfl
  obtain ⟨m, n, below, rfl, ⟨l, sd, p, c, cs, a1, a2, a3, a4, a5, a6, a7, a8, a9⟩, hn, hb, hb2, q⟩ := h
  refine ⟨_, (pss_cons (ps_if (pt_cmpR op_gt (pe_dget (hu_of hr) (pv 0) pe_str (fun _ _ => rfl)) pe_int (by rfl)) (pss_cons (ps_set (i := 2) sc_law_draw.nd rfl (Or.inl rfl) (pe_op op_mod (pe_callTy call_int1 (by rfl) T.z_int (by decide +kernel) (pa_cons (pe_dget (hu_of hr) (pv 0) pe_str (fun _ _ => rfl)) pa_nil)) (pv 1)))
    (pss_cons (ps_dput (hu_of hr) (pv 0) pe_str (pe_op op_fdivW (pe_dget (hu_of hr) (pv 0) pe_str (fun _ _ => rfl)) (pv 1)) rfl)
    (pss_one (ps_ret (pv 2))))) pss_nil)
    (pss_cons (ps_set (i := 3) sc_law_draw.nd rfl (Or.inl rfl) (pe_dget (hu_of hr) (pv 0) pe_str (fun _ _ => rfl)))
    (pss_cons (ps_dput (hu_of hr) (pv 0) pe_str (pe_op op_add (pv 3) pe_int) rfl)
    (pss_cons (ps_par (i := 4) (j := 5) (by rfl) sc_law_draw.nd rfl rfl (by decide) rfl rfl (pa_cons (pe_dget (hu_of hr) (pv 0) pe_str (fun _ _ => rfl)) (pa_cons (pe_op op_add (pe_dget (hu_of hr) (pv 0) pe_str (fun _ _ => rfl)) (pe_op op_mul (pe_op op_mul pe_int (pv 3)) (pv 3))) pa_nil)) (by rfl))
    (pss_cons (ps_set (i := 6) sc_law_draw.nd rfl (Or.inl rfl) (pe_ix (ix_listK K) (pv 4) (pe_op op_mod (pe_callTy call_int1 (by rfl) T.z_int (by decide +kernel) (pa_cons (pv 3) pa_nil)) (pe_callB (len_seqK K) (by rfl) T.z_len (by decide +kernel) (pa_cons (pv 4) pa_nil))) (fun _ _ => rfl)))
    (pss_cons (ps_set (i := 7) sc_law_draw.nd rfl (Or.inl rfl) (pe_op op_mod (pe_callTy call_int1 (by rfl) T.z_int (by decide +kernel) (pa_cons (pe_op op_add (pe_op op_mul (pv 6) (pe_op op_add (pe_op op_mul pe_int (pv 3)) pe_int)) (pv 5)) pa_nil)) pe_int))
    (pss_cons (ps_set (i := 7) sc_law_draw.nd rfl (Or.inl rfl) (pe_op op_mod (pe_callTy call_int1 (by rfl) T.z_int (by decide +kernel) (pa_cons (pe_op op_add (pe_op op_add (pe_op op_mul (pv 7) (pv 7)) (pe_op op_mul pe_int (pv 3))) (pe_dget (hu_of hr) (pv 0) pe_str (fun _ _ => rfl))) pa_nil)) pe_int))
    (pss_one (ps_ret (pe_op op_mod (pe_op op_fdiv (pe_op op_mod (pe_callTy call_int1 (by rfl) T.z_int (by decide +kernel) (pa_cons (pe_op op_add (pe_op op_mul (pv 7) pe_int) (pv 3)) pa_nil)) pe_int) pe_int) (pv 1))))))))))), ?_⟩
  try dsimp only [L2.cxOf, L2.Cx.nox]
  walk_at "rd"
  refine rd_dgetK a1 val_left ?_
  walk_at "rd"
  refine rd_two (fun cl => ?_) (fun cl => ?_)
  · walk_at "rd"
    refine rd_dgetK a1 val_left ?_
    walk_at "rd"
    refine rd_dgetK a1 val_left ?_
    walk_at "rd"
    refine rd_i (wide_div hb (b := 1000) (by omega) (by decide) (by decide)) ?_
    walk_at "rd"
    refine rd_dputK a1 put_left (show 4 < 1000000 by decide) ?_
    walk_at "rd"
    refine q _ _ (Int.emod_nonneg _ (by omega)) (Int.emod_lt_of_pos _ hb) (Kp.at _) ?_ (fun c' h' => by rw [← h'.eq a1]; exact ⟨_, _, _, upd_same⟩)
    exact ⟨_, sd, p, c, cs, upd_same, (by rw [upd_ne (ne_of a2 a1 (fun z => nomatch z))]; exact a2), a3, a4, Int.ediv_nonneg a5 (by omega), a6, a7, a8, by omega⟩
  · walk_at "rd"
    refine rd_dgetK a1 val_spot ?_
    walk_at "rd"
    refine rd_dputK a1 put_spot (show 4 < 1000000 by decide) ?_
    have b1 : (upd H m (.dK (mk l sd c (p + 1)))) m = some (.dK (mk l sd c (p + 1))) := upd_same
    have b2 : (upd H m (.dK (mk l sd c (p + 1)))) c = some (.lst (cs.map V.int)) := by
      rw [upd_ne (ne_of a2 a1 (fun z => nomatch z))]
      exact a2
    walk_at "rd"
    refine rd_dgetK b1 val_cells ?_
    walk_at "rd"
    refine rd_dgetK b1 val_seed ?_
    walk_at "rd"
    refine rd_len (.inl (sqL b2)) ?_
    have h0 : 0 < cs.length := List.length_pos_iff.mpr a3
    have h1 : 0 < (cs.map V.int).length := by rw [List.length_map]; exact h0
    walk_at "rd"
    obtain ⟨z, hz⟩ : ∃ z : Int, atI (cs.map V.int) (p % ((cs.map V.int).length : Int)) = some (.int z) := by
      obtain ⟨v, e, hm⟩ := atI_mod (xs := cs.map V.int) p (fun z => a3 (List.map_eq_nil_iff.mp z))
      obtain ⟨z, _, rfl⟩ := List.mem_map.mp hm
      exact ⟨z, e⟩
    refine rd_ixL (sqL b2) hz ?_
    walk_at "rd"
    refine rd_dgetK b1 val_seed ?_
    walk_at "rd"
    refine q _ _ (Int.emod_nonneg _ (by omega)) (Int.emod_lt_of_pos _ hb) (Kp.at _) ?_ (fun c' h' => by rw [← h'.eq a1]; exact ⟨_, _, _, upd_same⟩)
    exact ⟨l, sd, p + 1, c, cs, b1, b2, a3, a4, a5, a6, a7, by omega, by omega⟩
theorem ok_law_draw (T : Txt P K mg) {k : Nat} : FnOk P w K mg base CX0 (k + 1) T.f_law_draw T.d_law_draw ["m", "below"] spDraw :=
  FnOk_weak (ok_law_drawC T) fun vs H Q E ⟨m, n, below, e, hm, hn, hb, hb2, q⟩ => ⟨m, n, below, e, hm, hn, hb, hb2, fun r H' r0 r1 k h _ => q r H' r0 r1 k h⟩
end

/-! ### the state that a law begins with, and what is drawn from a list -/
def spBegun (K : PySem.W.Frag) : Sp := fun vs H Q _ => ∃ (a : Addr) (ns : List Int) (k : Int), vs = [.ref a, .int k] ∧ SqL K H a (ns.map V.int) ∧ ns.length ≤ 63 ∧ 0 ≤ k ∧ k ≤ 1000 ∧
  ∀ (m : Addr) (H' : Hp), Same H H' → H m = none → MAt H' m 0 → Q (.ref m) H'
section
variable {P : Program} {w : World} {K : PySem.W.Frag} {mg : Str → Option Value} {base : Heap}
theorem sc_law_begun : FnScope ["script", "k", "cells", "great", "begun", "cell"] ["script", "k"] (defScope s_law_begun) := ⟨rfl, rfl, rfl, by decide +kernel, rfl, by decide +kernel, by decide +kernel⟩
theorem ok_law_begun (T : Txt P K mg) {k : Nat} : FnOk P w K mg base CX0 (k + 1) T.f_law_begun T.d_law_begun ["script", "k"] (spBegun K) := by
  refine T.F_law_begun.ok sc_law_begun (fun vs H Q E h => ?_) (fun cdv A outer s H vs Q E hr h => ?_)
  · obtain ⟨a, ns, k, rfl, _⟩ := h
    rfl
  obtain ⟨a, ns, k, rfl, hS, hl, k0, k1, q⟩ := h
  refine ⟨_, (pss_cons (ps_set (i := 2) sc_law_begun.nd rfl (Or.inl rfl) (pe_op op_cat (pe_slice (sl_listK K) (pv 0) (po_some (pv 1)) po_none) (pe_slice (sl_listK K) (pv 0) po_none (po_some (pv 1)))))
    (pss_cons (ps_setLc (i := 3) (own := [("cell", 5)]) (g := (gName 5)) rfl sc_law_begun.nd rfl rfl (sw_true rfl rfl rfl (by decide +kernel)) (pi_list (pv 0)) (blkOk_by (N := ["script", "k", "cells", "great", "begun", "cell"]) (sc := defScope s_law_begun) (by decide +kernel)) (fun _ _ _ _ _ => (pg_name (i := 5) sc_law_begun.nd rfl (Or.inl rfl))) (fun _ _ _ _ _ => (pts_one (pt_cmpR op_ge (pv 5) (pe_op op_pow pe_int pe_int) (by rfl)))) (fun _ _ _ _ _ => (pv 5)))
    (pss_cons (ps_set (i := 4) sc_law_begun.nd rfl (Or.inl rfl) (pe_op op_add pe_int (pe_op op_mul pe_int (pv 1))))
    (pss_cons (ps_for PassesOwn.never rfl (pi_list (pv 2)) (pg_name (i := 5) sc_law_begun.nd rfl (Or.inl rfl)) (pss_one (ps_set (i := 4) sc_law_begun.nd rfl (Or.inl rfl) (pe_op op_mod (pe_callTy call_int1 (by rfl) T.z_int (by decide +kernel) (pa_cons (pe_op op_add (pe_op op_mul (pv 4) pe_int) (pv 5)) pa_nil)) pe_int))))
    (pss_one (ps_ret (pe_disp (pps_cons pe_str (pe_ifExp (pt_cmpR op_lt (pv 1) (pe_callB (len_seqK K) (by rfl) T.z_len (by decide +kernel) (pa_cons (pv 3) pa_nil)) (by rfl)) (pe_ix (ix_listK K) (pv 3) (pv 1) (fun _ _ => rfl)) pe_int) (pps_cons pe_str (pv 4) (pps_cons pe_str (pe_op op_cat (pv 2) (pe_lst (pa_cons (pe_op op_add (pe_op op_mul pe_int (pv 1)) pe_int) pa_nil))) (pps_cons pe_str pe_int pps_nil)))) (by rfl) (by rfl) (fun z => by cases z) (by decide)))))))), ?_⟩
  try dsimp only [L2.cxOf, L2.Cx.nox]
  walk_at "rd"
  refine rd_slL hS fun p1 n1 => ?_
  have s1 := Same.new n1 (.lst (cutV (ns.map V.int) (some k) none))
  walk_at "rd"
  refine rd_slL (s1.seq hS) fun p2 n2 => ?_
  obtain ⟨m1, e1, h1⟩ := cut_ints ns (some k) none
  obtain ⟨m2, e2, h2⟩ := cut_ints ns none (some k)
  have s2 := s1.trans (Same.new n2 (.lst (cutV (ns.map V.int) none (some k))))
  have g1 := (Same.new n2 (.lst (cutV (ns.map V.int) none (some k)))) _ _ (upd_same (H := H) (a := p1) (o := .lst (cutV (ns.map V.int) (some k) none)))
  generalize hH2 : upd (upd H p1 (.lst (cutV (ns.map V.int) (some k) none))) p2 (.lst (cutV (ns.map V.int) none (some k))) = H2 at *
  have g2 : H2 p2 = some (.lst (cutV (ns.map V.int) none (some k))) := by rw [← hH2]; exact upd_same
  rw [e1] at g1
  rw [e2] at g2
  refine rd_cat g1 g2 (by rw [List.length_map, List.length_map]; omega) fun p3 n3 => ?_
  have s3 := s2.trans (Same.new n3 (.lst (m1.map V.int ++ m2.map V.int)))
  have g3 : (upd H2 p3 (.lst (m1.map V.int ++ m2.map V.int))) p3 = _ := upd_same
  generalize hH3 : upd H2 p3 (.lst (m1.map V.int ++ m2.map V.int)) = H3 at *
  rw [← List.map_append] at g3
  have h3 : (m1 ++ m2).length ≤ 126 := by rw [List.length_append]; omega
  generalize m1 ++ m2 = cs at g3 h3
  walk_at "rd"
  refine rd_atL (s3.seq hS) fun p4 n4 => lc_src walk_list (fun i => .int (ns.getD i 0)) ?_ (fun i => decide ((10 : Int) ^ 18 ≤ ns.getD i 0)) (fun i => .int (ns.getD i 0))
    (by rw [List.length_map]; omega) n4 (fun H' z => z.seq (s3.seq hS)) (fun x => rfl) ?_ ?_ ?_
  · rintro i H0 x H' hi ⟨rfl, e⟩
    refine ⟨rfl, ?_⟩
    rw [List.getElem?_map] at e
    cases z : ns[i]? with
    | none => rw [z] at e; cases e
    | some y =>
      rw [z] at e
      rw [List.getD_eq_getElem?_getD, z]
      exact (Option.some.inj e).symm
  · intro i H' R hi z r
    walk_at "rd"
    exact r
  · intro i H' R hi hf z r
    walk_at "rd"
    exact r H' (Same.refl _)
  intro H4 s4 g4
  rw [given_ints] at g4
  have pos : ∀ z ∈ ((List.range (ns.map V.int).length).filter fun i => decide ((10 : Int) ^ 18 ≤ ns.getD i 0)).map (fun i => ns.getD i 0), 0 ≤ z := by
    intro z hz
    obtain ⟨i, hi, rfl⟩ := List.mem_map.mp hz
    have := of_decide_eq_true (List.mem_filter.mp hi).2
    omega
  generalize (((List.range (ns.map V.int).length).filter fun i => decide ((10 : Int) ^ 18 ≤ ns.getD i 0)).map (fun i => ns.getD i 0)) = gs at g4 pos
  have g3' := s4 _ _ g3
  walk_at "rd"
  refine rd_atL (sqL g3') (forL (xs := cs.map V.int) (fun i σ H' => ∃ (b : Int) (x : Option V), σ = [some (.ref a), some (.int k), some (.ref p3), some (.ref p4), some (.int b), x] ∧
    0 ≤ b ∧ b < 2147483647 ∧ H' = H4) ⟨53 + 8 * k, none, rfl, by omega, by omega, rfl⟩ (fun i σ H' _ ⟨_, _, _, _, _, e⟩ => by rw [e]; exact sqL g3') ?_ ?_)
  · rintro i x σ H' hi ⟨b, y, rfl, b0, b1, rfl⟩
    obtain ⟨z, _, rfl⟩ := List.mem_map.mp (List.mem_of_getElem? hi)
    walk_at "rd"
    exact ⟨_, _, rfl, Int.emod_nonneg _ (by decide), Int.emod_lt_of_pos _ (by decide), rfl⟩
  · rintro σ H' ⟨b, y, rfl, b0, b1, rfl⟩
    walk_at "rd"
    intro m nm
    have s5 : Same H' _ := Same.new nm (.dK [])
    have g5 := (Same.new nm (.dK [])) _ _ g4
    have g6 := (Same.new nm (.dK [])) _ _ g3'
    have rest : ∀ l : Int, 0 ≤ l → tPairs [(tC (V.str (Str.ofString "seed")), tVar 4), (tC (V.str (Str.ofString "cells")), tOp rCat (tVar 2)
        (tLst (tCons (tOp (rI0 fun i j => V.int (i + j)) (tOp (rI CMul fun i j => V.int (i * j)) (tC (V.int 41)) (tVar 1)) (tC (V.int 13))) tNil))),
        (tC (V.str (Str.ofString "spot")), tC (V.int 0))] [some (.ref a), some (.int k), some (.ref p3), some (.ref p4), some (.int b), y] (upd H' m (.dK [])) fun ps H2 =>
          H2 m = some (.dK []) ∧ ∃ kvs : List (Key × V), (V.str (Str.ofString "left"), V.int l) :: ps = kvs.map (fun kv => (kV kv.1, kv.2)) ∧ kvs.length ≤ 15 ∧ Q (.ref m) (upd H2 m (.dK (mergeK [] kvs))) := by
      intro l hl
      walk_at "rd"
      refine ⟨by show 1 ≤ sizeLine; decide, fun p5 n5 => ?_⟩
      have s6 := s5.trans (Same.new n5 (.lst [V.int (41 * k + 13)]))
      have g7 := (Same.new n5 (.lst [V.int (41 * k + 13)])) _ _ g6
      have m1 := (Same.new n5 (.lst [V.int (41 * k + 13)])) _ _ (upd_same (H := H') (a := m) (o := .dK []))
      refine rd_cat g7 upd_same (by rw [List.length_map]; show cs.length + 1 ≤ 1000000; omega) fun p6 n6 => ?_
      have s7 := s6.trans (Same.new n6 (.lst (cs.map V.int ++ [V.int (41 * k + 13)])))
      have m2 := (Same.new n6 (.lst (cs.map V.int ++ [V.int (41 * k + 13)]))) _ _ m1
      have np : p6 ≠ m := (ne_of_none m1 n6).symm
      walk_at "rd"
      refine ⟨m2, mk l b p6 0, rfl, (by show 4 ≤ 15; decide), ?_⟩
      rw [merge_mk]
      have old : Same H H' := s3.trans s4
      have nm0 : H m = none := old.free nm
      refine q m _ (Same.put (old.trans s7) nm0 _) nm0 ⟨l, b, 0, p6, cs ++ [41 * k + 13], upd_same, ?_, by simp, ?_, hl, b0, b1, Int.le_refl 0, by omega⟩
      · rw [upd_ne np, upd_same, List.map_append]
        rfl
      · rw [List.length_append]
        show cs.length + 1 ≤ 200
        omega
    walk_at "rd"
    refine rd_len (.inl (sqL g5)) ?_
    walk_at "rd"
    refine rd_two (fun c => ?_) (fun c => ?_)
    · walk_at "rd"
      obtain ⟨v, e, _, hm⟩ := atI_in (xs := gs.map V.int) k0 c
      obtain ⟨z, hz, rfl⟩ := List.mem_map.mp hm
      refine rd_ixL (sqL g5) e ?_
      exact rest z (pos z hz)
    · exact rd_c (rest 0 (Int.le_refl 0))
end

/-! ### drawn values and numbers -/
def spOfC (K : PySem.W.Frag) : Sp := fun vs H Q _ => ∃ (m a : Addr) (n : Nat) (xs : List V), vs = [.ref m, .ref a] ∧ MAt H m n ∧ n ≤ 999999 ∧ H a = some (.lst xs) ∧ xs ≠ [] ∧ xs.length ≤ 1000 ∧
  ∀ v H', v ∈ xs → Kp m H H' → MAt H' m (n + 1) → (∀ c, Cel H m c → Cel H' m c) → Q v H'
def spVal : Sp := fun vs H Q _ => ∃ (m : Addr) (c : Nat), vs = [.ref m] ∧ MAt H m c ∧ c ≤ 900000 ∧
  ∀ (p : Addr) (u v : Int) (H' : Hp), Kp m H H' → MAt H' m (c + 3) → (∀ c, Cel H m c → Cel H' m c) → H' p = some (.tup [.int u, .int v]) → 0 < v → (v.natAbs ∣ 1000003 ∨ v.natAbs ≤ 40) → 0 ≤ u → u ≤ v → Q (.ref p) H'
def spWhole : Sp := fun vs H Q _ => ∃ (m : Addr) (c : Nat), vs = [.ref m] ∧ MAt H m c ∧ c ≤ 900000 ∧
  ∀ (i : Int) (H' : Hp), Kp m H H' → MAt H' m (c + 3) → (∀ c, Cel H m c → Cel H' m c) → i.natAbs ≤ 10 ^ 12 → Q (.int i) H'
theorem Cel.same {H H' : Hp} {m : Addr} (s : Same H H') : ∀ c, Cel H m c → Cel H' m c := fun c ⟨l, d, p, e⟩ => ⟨l, d, p, s _ _ e⟩
section
variable {P : Program} {w : World} {K : PySem.W.Frag} {mg : Str → Option Value} {base : Heap}
theorem sc_law_of : FnScope ["m", "some"] ["m", "some"] (defScope s_law_of) := ⟨rfl, rfl, rfl, by decide +kernel, rfl, by decide +kernel, by decide +kernel⟩
theorem ok_law_ofC (T : Txt P K mg) {k : Nat} : FnOk P w K mg base CX0 (k + 2) T.f_law_of T.d_law_of ["m", "some"] (spOfC K) := by
  refine T.F_law_of.ok sc_law_of (fun vs H Q E h => ?_) (fun cdv A outer s H vs Q E hr h => ?_)
  · obtain ⟨m, a, n, xs, rfl, _⟩ := h
    rfl
  obtain ⟨m, a, n, xs, rfl, hm, hn, ha, hx, hl, q⟩ := h
  refine ⟨_, (pss_one (ps_ret (pe_ix (ix_listK K) (pv 1) (pe_call (ok_law_drawC T) hr (by rfl) T.g_law_draw T.F_law_draw.kp T.b_law_draw .nil pass0 (pa_cons (pv 0) (pa_cons (pe_callB (len_seqK K) (by rfl) T.z_len (by decide +kernel) (pa_cons (pv 1) pa_nil)) pa_nil))) (fun _ _ => rfl)))), ?_⟩
  try dsimp only [L2.cxOf, L2.Cx.nox]
  walk_at "rd"
  refine rd_len (.inl (sqL ha)) ?_
  walk_at "rd"
  have h0 : 0 < xs.length := List.length_pos_iff.mpr hx
  refine ⟨m, n, _, rfl, hm, by omega, by omega, Int.lt_of_le_of_lt (show (xs.length : Int) ≤ 1000 by omega) (by decide), fun r H' r0 r1 kp hm' hc => ?_⟩
  obtain ⟨v, e, _, hv⟩ := atI_in (xs := xs) r0 r1
  exact rd_ixL (sqL (hm.lst kp ha)) e (q v H' hv kp hm' hc)
theorem sc_law_some_value : FnScope ["m", "whole"] ["m"] (defScope s_law_some_value) := ⟨rfl, rfl, rfl, by decide +kernel, rfl, by decide +kernel, by decide +kernel⟩
theorem ok_law_some_value (T : Txt P K mg) {k : Nat} : FnOk P w K mg base CX0 (k + 3) T.f_law_some_value T.d_law_some_value ["m"] spVal := by
  refine T.F_law_some_value.ok sc_law_some_value (fun vs H Q E h => ?_) (fun cdv A outer s H vs Q E hr h => ?_)
  · obtain ⟨m, c, rfl, _⟩ := h
    rfl
  obtain ⟨m, c, rfl, hm, hc, q⟩ := h
  refine ⟨_, (pss_cons (ps_set (i := 1) sc_law_some_value.nd rfl (Or.inl rfl) (pe_call (ok_law_ofC T) hr (by rfl) T.g_law_of T.F_law_of.kp T.b_law_of .nil pass0 (pa_cons (pv 0) (pa_cons (pe_lst (pa_cons pe_int (pa_cons pe_int (pa_cons pe_int (pa_cons pe_int (pa_cons pe_int (pa_cons pe_int (pa_cons pe_int (pa_cons (pe_op op_add pe_int (pe_call (ok_law_drawC T) hr (by rfl) T.g_law_draw T.F_law_draw.kp T.b_law_draw .nil pass0 (pa_cons (pv 0) (pa_cons pe_int pa_nil)))) (pa_cons (pe_op op_add (pe_op op_pow pe_int pe_int) pe_int) pa_nil)))))))))) pa_nil))))
    (pss_one (ps_ret (pe_call (ok_law_lowest T) hr (by rfl) T.g_law_lowest T.F_law_lowest.kp T.b_law_lowest .nil pass0 (pa_cons (pe_call (ok_law_drawC T) hr (by rfl) T.g_law_draw T.F_law_draw.kp T.b_law_draw .nil pass0 (pa_cons (pv 0) (pa_cons (pe_op op_add (pv 1) pe_int) pa_nil))) (pa_cons (pv 1) pa_nil)))))), ?_⟩
  try dsimp only [L2.cxOf, L2.Cx.nox]
  walk_at "rd"
  refine ⟨m, c, 40, rfl, hm, by omega, by decide, by decide, fun r1 H1 r10 r11 k1 m1 c1 => ?_⟩
  walk_at "rd"
  refine ⟨by show 9 ≤ sizeLine; decide, fun p2 n2 => ?_⟩
  have s2 := Same.new n2 (.lst [V.int 1, V.int 2, V.int 3, V.int 4, V.int 6, V.int 7, V.int 12, V.int (1 + r1), V.int (10 ^ (6 : Int).toNat + 3)])
  walk_at "rd"
  refine ⟨m, p2, _, _, rfl, m1.same s2, by omega, upd_same, List.cons_ne_nil _ _, by show 9 ≤ 1000; decide, fun v H3 hv k3 m3 c3 => ?_⟩
  obtain ⟨wh, rfl, w0, w1⟩ : ∃ wh : Int, v = .int wh ∧ 0 < wh ∧ (wh = 1000003 ∨ wh ≤ 40) := by
    simp only [List.mem_cons, List.not_mem_nil, or_false] at hv
    rcases hv with rfl | rfl | rfl | rfl | rfl | rfl | rfl | rfl | rfl
    · exact ⟨1, rfl, by decide, .inr (by decide)⟩
    · exact ⟨2, rfl, by decide, .inr (by decide)⟩
    · exact ⟨3, rfl, by decide, .inr (by decide)⟩
    · exact ⟨4, rfl, by decide, .inr (by decide)⟩
    · exact ⟨6, rfl, by decide, .inr (by decide)⟩
    · exact ⟨7, rfl, by decide, .inr (by decide)⟩
    · exact ⟨12, rfl, by decide, .inr (by decide)⟩
    · exact ⟨1 + r1, rfl, by omega, .inr (by omega)⟩
    · exact ⟨1000003, rfl, by decide, .inl rfl⟩
  have k13 : Kp m H H3 := (k1.trans (Kp.of s2)).trans k3
  have w2 : wh ≤ 1000003 := by omega
  walk_at "rd"
  refine ⟨m, _, wh + 1, rfl, m3, by omega, by omega, Int.lt_of_le_of_lt (show wh + 1 ≤ 1000004 by omega) (by decide), fun u H4 u0 u1 k4 m4 c4 => ?_⟩
  walk_at "rd"
  refine ⟨u, wh, rfl, w0, Nat.lt_of_le_of_lt (show wh.natAbs ≤ 1000003 by omega) (by decide), fun p H5 s5 h5 => ?_⟩
  have g0 := gcd_pos (a := u) w0
  have gd1 : (Int.gcd u wh : Int) ∣ wh := Int.gcd_dvd_right ..
  have gd0 : (Int.gcd u wh : Int) ∣ u := Int.gcd_dvd_left ..
  obtain ⟨e, he⟩ := gd1
  obtain ⟨f, hf⟩ := gd0
  have gp : (0 : Int) < Int.gcd u wh := by omega
  have ev : wh / (Int.gcd u wh : Int) = e := by
    conv => lhs; lhs; rw [he]
    exact Int.mul_ediv_cancel_left _ (by omega)
  have eu : u / (Int.gcd u wh : Int) = f := by
    conv => lhs; lhs; rw [hf]
    exact Int.mul_ediv_cancel_left _ (by omega)
  have e0 : 0 < e := by
    rcases Int.lt_or_le 0 e with z | z
    · exact z
    · have := Int.mul_nonpos_of_nonneg_of_nonpos (Int.le_of_lt gp) z
      omega
  rw [ev, eu] at h5
  have dv : e ∣ wh := ⟨(Int.gcd u wh : Int), by rw [Int.mul_comm]; exact he⟩
  refine q p f e H5 ((k13.trans k4).trans (Kp.of s5)) (m4.same s5) (fun c hc => Cel.same s5 c (c4 c (c3 c (Cel.same s2 c (c1 c hc))))) h5 e0 ?_ ?_ ?_
  · rcases w1 with rfl | w1
    · exact .inl (Int.natAbs_dvd_natAbs.mpr dv)
    · have := Int.le_of_dvd w0 dv
      exact .inr (by omega)
  · rw [← eu]
    exact Int.ediv_nonneg u0 (Int.le_of_lt gp)
  · rw [← eu, ← ev]
    exact Int.ediv_le_ediv gp (by omega)
theorem sc_law_whole : FnScope ["m", "far"] ["m"] (defScope s_law_whole) := ⟨rfl, rfl, rfl, by decide +kernel, rfl, by decide +kernel, by decide +kernel⟩
theorem ok_law_whole (T : Txt P K mg) {k : Nat} : FnOk P w K mg base CX0 (k + 3) T.f_law_whole T.d_law_whole ["m"] spWhole := by
  refine T.F_law_whole.ok sc_law_whole (fun vs H Q E h => ?_) (fun cdv A outer s H vs Q E hr h => ?_)
  · obtain ⟨m, c, rfl, _⟩ := h
    rfl
  obtain ⟨m, c, rfl, hm, hc, q⟩ := h
  refine ⟨_, (pss_cons (ps_set (i := 1) sc_law_whole.nd rfl (Or.inl rfl) (pe_call (ok_law_ofC T) hr (by rfl) T.g_law_of T.F_law_of.kp T.b_law_of .nil pass0 (pa_cons (pv 0) (pa_cons (pe_lst (pa_cons pe_int (pa_cons pe_int (pa_cons pe_int (pa_cons pe_int (pa_cons (pe_op op_pow pe_int pe_int) pa_nil)))))) pa_nil))))
    (pss_one (ps_ret (pe_op op_sub (pe_call (ok_law_drawC T) hr (by rfl) T.g_law_draw T.F_law_draw.kp T.b_law_draw .nil pass0 (pa_cons (pv 0) (pa_cons (pv 1) pa_nil))) (pe_call (ok_law_drawC T) hr (by rfl) T.g_law_draw T.F_law_draw.kp T.b_law_draw .nil pass0 (pa_cons (pv 0) (pa_cons (pv 1) pa_nil))))))), ?_⟩
  try dsimp only [L2.cxOf, L2.Cx.nox]
  walk_at "rd"
  refine ⟨by show 5 ≤ sizeLine; decide, fun p2 n2 => ?_⟩
  have s2 := Same.new n2 (.lst [V.int 2, V.int 4, V.int 7, V.int 30, V.int (10 ^ (12 : Int).toNat)])
  walk_at "rd"
  refine ⟨m, p2, _, _, rfl, hm.same s2, by omega, upd_same, List.cons_ne_nil _ _, by show 5 ≤ 1000; decide, fun v H3 hv k3 m3 c3 => ?_⟩
  obtain ⟨far, rfl, f0, f1⟩ : ∃ far : Int, v = .int far ∧ 0 < far ∧ far ≤ 1000000000000 := by
    simp only [List.mem_cons, List.not_mem_nil, or_false] at hv
    rcases hv with rfl | rfl | rfl | rfl | rfl
    · exact ⟨2, rfl, by decide, by decide⟩
    · exact ⟨4, rfl, by decide, by decide⟩
    · exact ⟨7, rfl, by decide, by decide⟩
    · exact ⟨30, rfl, by decide, by decide⟩
    · exact ⟨1000000000000, rfl, by decide, by decide⟩
  walk_at "rd"
  refine ⟨m, _, far, rfl, m3, by omega, f0, Int.lt_of_le_of_lt f1 (by decide), fun x H4 x0 x1 k4 m4 c4 => ?_⟩
  walk_at "rd"
  refine ⟨m, _, far, rfl, m4, by omega, f0, Int.lt_of_le_of_lt f1 (by decide), fun y H5 y0 y1 k5 m5 c5 => ?_⟩
  walk_at "rd"
  exact q _ H5 ((((Kp.of s2).trans k3).trans k4).trans k5) m5 (fun c hc => c5 c (c4 c (c3 c (Cel.same s2 c hc)))) (by omega)
end

def spOf (K : PySem.W.Frag) : Sp := fun vs H Q _ => ∃ (m a : Addr) (n : Nat) (xs : List V), vs = [.ref m, .ref a] ∧ MAt H m n ∧ n ≤ 999999 ∧ H a = some (.lst xs) ∧ xs ≠ [] ∧ xs.length ≤ 1000 ∧
  ∀ v H', v ∈ xs → Kp m H H' → MAt H' m (n + 1) → Q v H'
section
variable {P : Program} {w : World} {K : PySem.W.Frag} {mg : Str → Option Value} {base : Heap}
theorem ok_law_of (T : Txt P K mg) {k : Nat} : FnOk P w K mg base CX0 (k + 2) T.f_law_of T.d_law_of ["m", "some"] (spOf K) :=
  FnOk_weak (ok_law_ofC T) fun vs H Q E ⟨m, a, n, xs, e, hm, hn, ha, hx, hl, q⟩ => ⟨m, a, n, xs, e, hm, hn, ha, hx, hl, fun v H' hv k h _ => q v H' hv k h⟩
end

/-! ### comprehensions that draw -/
theorem lcDraw {σ : L2.St} {H1 : Hp} {te : TE} {vs : List Nat} {j n : Nat} {J : It} {G : Hp → Prop} {Y : Nat → Hp → V → Hp → Prop} {Dl m : Addr} {Qd : Hp → Prop} (wk : Walk J n G Y) (step c : Nat) (A : List V → Hp → Prop)
    (hm : MAt H1 m c) (hD : H1 Dl = none) (hn : n ≤ 1000) (hy : ∀ i H x H', i < n → Y i H x H' → H' = H) (hG : ∀ H', Kp m H1 H' → G H')
    (hA : ∀ acc H' ys zs, H' Dl = some (.lst ys) → A acc H' → A acc (upd H' Dl (.lst zs))) (A0 : A [] (upd H1 Dl (.lst [])))
    (hw : ∀ x, wipe ((wipe σ vs).set j (some x)) vs = wipe σ vs)
    (he : ∀ i x acc H' (R : VK), i < n → acc.length = i → Kp m H1 H' → MAt H' m (c + step * i) → A acc H' →
      (∀ v H'', Kp m H' H'' → MAt H'' m (c + step * (i + 1)) → (∀ c, Cel H' m c → Cel H'' m c) → A (acc ++ [v]) H'' → R v H'') → te ((wipe σ vs).set j (some x)) H' R)
    (hd : ∀ acc H', acc.length = n → Kp m H1 H' → MAt H' m (c + step * n) → (∀ c, Cel H1 m c → Cel H' m c) → H' Dl = some (.lst acc) → A acc H' → Qd H') :
    ∃ W : Nat → Nat → Hp → Prop, (∃ m, W 0 m (upd H1 Dl (.lst []))) ∧ ∀ i m H, W i m H →
      (J.stop i H ∧ Qd H) ∨ (J.go i H ∧ ∃ Nx : Hp → Prop, (∀ H', Nx H' → ∃ m', m' < m ∧ W (i + 1) m' H') ∧
        ∀ x H', J.yld i H x H' → gName j x (wipe σ vs) H' fun σ2 H2 => wipe σ2 vs = wipe σ vs ∧ tYes σ2 H2 fun b H3 =>
          if b = true then te σ2 H3 fun y H4 => ∃ acc, H4 Dl = some (.lst acc) ∧ acc.length < sizeLine ∧ Nx (upd H4 Dl (.lst (acc ++ [y]))) else Nx H3) := by
  obtain ⟨cc, hcc, o, hco⟩ := hm.cel
  obtain ⟨kvs, hmd⟩ := hm.dict
  have nm : Dl ≠ m := fun z => by
    rw [z, hmd] at hD
    cases hD
  have nc : Dl ≠ cc := fun z => by
    rw [z, hco] at hD
    cases hD
  have celU : ∀ {H' : Hp} {o : HO} {d : Addr}, Cel H' m d → Cel (upd H' Dl o) m d := fun {H' o d} ⟨l, s, q, e⟩ => ⟨l, s, q, by rw [upd_ne (Ne.symm nm)]; exact e⟩
  refine lc_it wk (fun i H' => ∃ acc : List V, acc.length = i ∧ Kp m H1 H' ∧ MAt H' m (c + step * i) ∧ (∀ c, Cel H1 m c → Cel H' m c) ∧ H' Dl = some (.lst acc) ∧ A acc H')
    ⟨[], rfl, Kp.new hD _, hm.upd hcc nm nc _, fun d h => celU h, upd_same, A0⟩ (fun i H' _ ⟨_, _, k, _⟩ => hG H' k) ?_ ?_
  · rintro i x H H' hi ⟨acc, al, k, mt, cl, hl, ha⟩ y
    obtain rfl := hy i H x H' hi y
    refine ⟨hw _, rd_yes (iteT (he i x acc _ _ hi al k mt ha fun v H2 k2 m2 c2 a2 => ?_))⟩
    have hl2 : H2 Dl = some (.lst acc) := by
      rw [k2 _ _ nm hl]
    refine ⟨acc, hl2, by rw [al, sizeLine_eq]; omega, acc ++ [v], ?_, (k.trans k2).put' hD _, m2.upd (c2 _ (cl _ hcc)) nm nc _, fun d h => celU (c2 _ (cl _ h)), upd_same, hA _ _ _ _ hl2 a2⟩
    rw [List.length_append, al]
    rfl
  · rintro H' ⟨acc, al, k, mt, cl, hl, ha⟩
    exact hd acc H' al k mt cl hl ha
def spFormC (K : PySem.W.Frag) : Sp := fun vs H Q _ => ∃ (m : Addr) (c n : Nat), vs = [.ref m, .int (n : Int)] ∧ MAt H m c ∧ c ≤ 800000 ∧ n ≤ 20 ∧
  ∀ (p : Addr) (xs : List Int) (H' : Hp), Kp m H H' → MAt H' m (c + 3 * (n + 1)) → (∀ c, Cel H m c → Cel H' m c) → H' p = some (.tup (xs.map V.int)) → xs.length = n + 1 → Low (10 ^ 12) xs → Q (.ref p) H'
section
variable {P : Program} {w : World} {K : PySem.W.Frag} {mg : Str → Option Value} {base : Heap}
theorem sc_law_form : FnScope ["m", "count", "spot"] ["m", "count"] (defScope s_law_form) := ⟨rfl, rfl, rfl, by decide +kernel, rfl, by decide +kernel, by decide +kernel⟩
theorem ok_law_form (T : Txt P K mg) {k : Nat} : FnOk P w K mg base CX0 (k + 4) T.f_law_form T.d_law_form ["m", "count"] (spFormC K) := by
  refine T.F_law_form.ok sc_law_form (fun vs H Q E h => ?_) (fun cdv A outer s H vs Q E hr h => ?_)
  · obtain ⟨m, c, n, rfl, _⟩ := h
    rfl
  obtain ⟨m, c, n, rfl, hm, hc, hn, q⟩ := h
  refine ⟨_, (pss_one (ps_ret (pe_callTy (tuple_ofK K) (by rfl) T.z_tuple (by decide +kernel) (pa_cons (pe_lc (own := [("spot", 2)]) (g := (gName 2)) rfl sc_law_form.nd (pi_range1 rfl T.z_range (pa_cons (pe_op op_add (pv 1) pe_int) pa_nil)) (blkOk_by (N := ["m", "count", "spot"]) (sc := defScope s_law_form) (by decide +kernel)) (fun _ _ _ _ _ => (pg_name (i := 2) sc_law_form.nd rfl (Or.inl rfl))) (fun _ _ _ _ _ => pts_nil) (fun _ _ _ _ _ => (pe_call (ok_law_whole T) hr (by rfl) T.g_law_whole T.F_law_whole.kp T.b_law_whole .nil pass0 (pa_cons (pv 0) pa_nil)))) pa_nil)))), ?_⟩
  try dsimp only [L2.cxOf, L2.Cx.nox]
  walk_at "rd"
  have szn : ((n : Int) + 1).toNat = n + 1 := by omega
  refine rd_atR (by omega) (by omega) fun D nD => lcDraw walk_range 3 c (fun acc _ => ∃ xs : List Int, acc = xs.map V.int ∧ Low (10 ^ 12) xs) hm nD (by omega) (fun i H x H' _ y => y.1) (fun _ _ => trivial) (fun acc H' ys zs _ h => h) ⟨[], rfl, fun x h => nomatch h⟩ (fun x => rfl) ?_ ?_
  · rintro i x acc H' R hi al k mt ⟨xs, rfl, low⟩ r
    walk_at "rd"
    refine ⟨m, _, rfl, mt, by omega, fun y H2 k2 m2 c2 hy => ?_⟩
    refine r _ H2 k2 (by rw [Nat.mul_add, Nat.mul_one, ← Nat.add_assoc]; exact m2) c2 ⟨xs ++ [y], ?_, ?_⟩
    · rw [List.map_append]
      rfl
    · intro z hz
      rcases List.mem_append.mp hz with hz | hz
      · exact low z hz
      · obtain rfl := List.mem_singleton.mp hz
        exact hy
  · rintro acc H' al k mt cl hl ⟨xs, rfl, low⟩
    rw [szn] at al mt
    rw [List.length_map] at al
    walk_at "rd"
    refine ⟨D, _, rfl, .inl ⟨sqL hl, fun p np => ?_⟩⟩
    have sn := Same.new np (.tup (xs.map V.int))
    exact q p xs _ (k.trans (Kp.of sn)) (mt.same sn) (fun c h => Cel.same sn c (cl c h)) upd_same al low
end

/-! ### data with greater numbers, as texts -/
mutual
def midD : PyData → Bool
  | .none => true
  | .bool _ => true
  | .int i => decide (i.natAbs < 10 ^ 60)
  | .str x => PyData.strOk x
  | .list xs => midDs xs
  | .tuple xs => midDs xs
  | .dict _ => false
def midDs : List PyData → Bool
  | [] => true
  | x :: xs => midD x && midDs xs
end
mutual
theorem mid_lay : ∀ d : PyData, midD d = true → d.canLay0 = true
  | .none, _ => rfl
  | .bool _, _ => rfl
  | .int _, _ => rfl
  | .str x, h => by rw [midD] at h; rw [PyData.canLay0]; exact h
  | .list xs, h => by rw [midD] at h; rw [PyData.canLay0]; exact mids_lay xs h
  | .tuple xs, h => by rw [midD] at h; rw [PyData.canLay0]; exact mids_lay xs h
  | .dict _, h => by rw [midD] at h; cases h
theorem mids_lay : ∀ xs : List PyData, midDs xs = true → PyData.canLayAll0 xs = true
  | [], _ => rfl
  | x :: xs, h => by
    rw [midDs, Bool.and_eq_true] at h
    rw [PyData.canLayAll0, mid_lay x h.1, mids_lay xs h.2]
    rfl
end
theorem mid_int_len (i : Int) (h : i.natAbs < 10 ^ 60) : (PyData.shown (.int i)).length ≤ 61 := by
  rw [PyData.shown]
  have := int_text_length_le10 (k := 60) (by decide) h
  rw [PySem.ofString_length]
  exact this
mutual
theorem mid_ints : ∀ d : PyData, midD d = true → d.intsShort 61 = true
  | .none, _ => rfl
  | .bool _, _ => rfl
  | .int i, h => by
    rw [midD, decide_eq_true_eq] at h
    rw [PyData.intsShort, decide_eq_true_eq]
    exact mid_int_len i h
  | .str x, h => rfl
  | .list xs, h => by rw [midD] at h; rw [PyData.intsShort]; exact mids_ints xs h
  | .tuple xs, h => by rw [midD] at h; rw [PyData.intsShort]; exact mids_ints xs h
  | .dict _, h => rfl
theorem mids_ints : ∀ xs : List PyData, midDs xs = true → PyData.intsShortAll 61 xs = true
  | [], _ => rfl
  | x :: xs, h => by
    rw [midDs, Bool.and_eq_true] at h
    rw [PyData.intsShortAll, mid_ints x h.1, mids_ints xs h.2]
    rfl
end
mutual
theorem mid_show : ∀ d : PyData, midD d = true → d.showable = true
  | .none, _ => rfl
  | .bool _, _ => rfl
  | .int i, h => by
    rw [midD, decide_eq_true_eq] at h
    rw [PyData.showable, decide_eq_true_eq]
    by_cases z : i.natAbs = 0
    · rw [z]; decide
    · refine (Nat.log2_lt z).mpr (Nat.lt_of_lt_of_le h ?_)
      exact Nat.le_trans (show 10 ^ 60 ≤ 2 ^ 240 by decide) (Nat.pow_le_pow_right (by decide) (by decide))
  | .str x, h => rfl
  | .list xs, h => by rw [midD] at h; rw [PyData.showable]; exact mids_show xs h
  | .tuple xs, h => by rw [midD] at h; rw [PyData.showable]; exact mids_show xs h
  | .dict _, h => by rw [midD] at h; cases h
theorem mids_show : ∀ xs : List PyData, midDs xs = true → PyData.showableAll xs = true
  | [], _ => rfl
  | x :: xs, h => by
    rw [midDs, Bool.and_eq_true] at h
    rw [PyData.showableAll, mid_show x h.1, mids_show xs h.2]
    rfl
end
section
variable {K : PySem.W.Frag} {H : Hp} {Q : VK} {v x y : V} {d d' : PyData} {p : Addr}
theorem rd_reprM (hd : Dp K H v d) (h : midD d = true) (hb : d.bulk ≤ 10000) (dp : d.depth ≤ 150) (q : Q (.str d.shown) H) : rRepr K [v] H Q := by
  refine ⟨v, d, rfl, hd, mid_show d h, PyData.hasDict_of_canLay d (mid_lay d h), dp, ?_, q⟩
  have := PyData.shown_le_bulk 61 (by decide) d (PyData.leavesShort_of_canLay0 61 d (mid_lay d h) (mid_ints d h))
  rw [sizeLine_eq]
  omega
theorem mid_intL : ∀ ns : List Int, (∀ x ∈ ns, x.natAbs < 10 ^ 60) → midDs (ns.map PyData.int) = true
  | [], _ => rfl
  | x :: r, h => by
    rw [List.map_cons, midDs, midD, decide_eq_true (h x (List.mem_cons_self ..)), mid_intL r fun y m => h y (List.mem_cons_of_mem _ m)]
    rfl
/-- repr of a tuple of whole numbers -/
theorem rd_reprN (ns : List Int) (h : SqT K H p (ns.map V.int)) (hs : ∀ x ∈ ns, x.natAbs < 10 ^ 60) (hl : ns.length ≤ 10000) (q : Q (.str (PyData.tuple (ns.map PyData.int)).shown) H) : rRepr K [.ref p] H Q := by
  refine rd_reprM (.tup h (dp_ints K H ns)) ?_ ?_ ?_ q
  · rw [midD]; exact mid_intL ns hs
  · rw [PyData.bulk, bulk_intL]; exact hl
  · rw [PyData.depth, depth_intL]; decide
end
/-! ### lowest terms do not change when both are taken so many times -/
theorem lowT_mul {t a b : Int} (ht : 0 < t) : lowT (t * a) (t * b) = lowT a b := by
  unfold lowT
  have e : (Int.gcd (t * a) (t * b) : Int) = t * (Int.gcd a b : Int) := by
    rw [Int.gcd_mul_left, Int.natCast_mul, Int.natAbs_of_nonneg (Int.le_of_lt ht)]
  rw [e, Int.mul_ediv_mul_of_pos _ _ ht, Int.mul_ediv_mul_of_pos _ _ ht]
theorem tot_mul {t W : Int} (l : List (Int × (Int × Int))) (h : ∀ q ∈ l, q.2.2 ≠ 0 ∧ q.2.2 ∣ W) : ∀ a, tot (t * W) l (t * a) = t * tot W l a := by
  induction l with
  | nil => intro a; rfl
  | cons q r ih =>
    intro a
    obtain ⟨h0, e, he⟩ := h q (List.mem_cons_self ..)
    have e1 : W / q.2.2 = e := by
      conv => lhs; lhs; rw [he]
      exact Int.mul_ediv_cancel_left _ h0
    have e2 : t * W / q.2.2 = t * e := by
      rw [he, show t * (q.2.2 * e) = q.2.2 * (t * e) by rw [← Int.mul_assoc, Int.mul_comm t, Int.mul_assoc]]
      exact Int.mul_ediv_cancel_left _ h0
    show tot (t * W) r (t * a + q.1 * q.2.1 * (t * W / q.2.2)) = t * tot W r (a + q.1 * q.2.1 * (W / q.2.2))
    rw [e1, e2, show t * a + q.1 * q.2.1 * (t * e) = t * (a + q.1 * q.2.1 * e) by rw [Int.mul_add, ← Int.mul_assoc (q.1 * q.2.1), Int.mul_comm (q.1 * q.2.1) t, Int.mul_assoc t]]
    exact ih (fun q m => h q (List.mem_cons_of_mem _ m)) _
def prod (ps : List (Int × Int)) : Int := ps.foldl (fun c p => c * p.2) 1
theorem prod_more {ps : List (Int × Int)} {i : Nat} {p : Int × Int} (h : ps[i]? = some p) : prod (ps.take (i + 1)) = prod (ps.take i) * p.2 := by
  unfold prod
  rw [List.take_add_one, h, List.foldl_append]
  rfl
theorem prod_pos {ps : List (Int × Int)} (h : DenOk ps) : ∀ i, i ≤ ps.length → 0 < prod (ps.take i) ∧ (prod (ps.take i)).natAbs ≤ 1000003 ^ i ∧ (cden (ps.take i) : Int) ∣ prod (ps.take i) ∧ ∀ p ∈ ps.take i, p.2 ∣ (cden (ps.take i) : Int)
  | 0, _ => by
    rw [List.take_zero]
    exact ⟨by decide, by decide, ⟨1, rfl⟩, fun p m => nomatch m⟩
  | i + 1, hi => by
    obtain ⟨p0, p1, p2, p3⟩ := prod_pos h i (by omega)
    have hp : ps[i]? = some ps[i] := List.getElem?_eq_getElem (by omega)
    obtain ⟨d0, d1⟩ := den_lt h (List.getElem_mem (show i < ps.length by omega))
    rw [prod_more hp, cden_more hp]
    have nat2 : ((ps[i].2.natAbs : Nat) : Int) = ps[i].2 := Int.natAbs_of_nonneg (Int.le_of_lt d0)
    refine ⟨Int.mul_pos p0 d0, ?_, ?_, ?_⟩
    · rw [Int.natAbs_mul, Nat.pow_succ]
      exact Nat.mul_le_mul p1 d1
    · refine Int.ofNat_dvd_left.mpr (Nat.lcm_dvd ?_ ?_)
      · rw [Int.natAbs_mul]
        exact Nat.dvd_trans (Int.ofNat_dvd_left.mp p2) (Nat.dvd_mul_right _ _)
      · rw [Int.natAbs_mul]
        exact Nat.dvd_mul_left _ _
    · intro p hm
      rw [List.take_add_one, hp] at hm
      rcases List.mem_append.mp hm with hm | hm
      · exact Int.dvd_trans (p3 p hm) (Int.natCast_dvd_natCast.mpr (Nat.dvd_lcm_left _ _))
      · obtain rfl : p = ps[i] := by simpa using hm
        rw [← nat2]
        exact Int.natCast_dvd_natCast.mpr (by rw [Int.natAbs_natCast]; exact Nat.dvd_lcm_right _ _)
theorem at_same {ps : List (Int × Int)} (h : DenOk ps) (xs : List Int) (x0 : Int) : lowT (tot (cden ps) (xs.zip ps) (x0 * cden ps)) (cden ps) = lowT (tot (prod ps) (xs.zip ps) (x0 * prod ps)) (prod ps) := by
  obtain ⟨p0, _, ⟨t, ht⟩, p3⟩ := prod_pos h ps.length (Nat.le_refl _)
  obtain ⟨c0, _⟩ := cden_small h ps.length (Nat.le_refl _)
  rw [List.take_length] at p0 ht p3 c0
  have c0' : (0 : Int) < cden ps := by omega
  have t0 : 0 < t := by
    rcases Int.lt_or_le 0 t with z | z
    · exact z
    · have := Int.mul_nonpos_of_nonneg_of_nonpos (Int.le_of_lt c0') z
      omega
  have ht' : prod ps = t * (cden ps : Int) := by rw [ht, Int.mul_comm]
  rw [ht', show x0 * (t * (cden ps : Int)) = t * (x0 * cden ps) by rw [← Int.mul_assoc, Int.mul_comm x0, Int.mul_assoc], tot_mul _ (fun q hq => ?_), lowT_mul t0]
  have hm := (List.of_mem_zip hq).2
  exact ⟨by have := (den_lt h hm).1; omega, p3 _ hm⟩

theorem MAt.seqT {K : PySem.W.Frag} {H H' : Hp} {m a : Addr} {n : Nat} {xs : List V} (h : MAt H m n) (k : Kp m H H') (e : SqT K H a xs) : SqT K H' a xs := by
  obtain ⟨kvs, hm⟩ := h.dict
  rcases e with (e | ⟨o, e⟩) | e
  · exact .inl (.inl (k.get e hm (fun z => nomatch z)))
  · exact .inl (.inr ⟨o, k.get e hm (fun z => nomatch z)⟩)
  · exact .inr e
theorem tot_le {W : Int} {B : Nat} (l : List (Int × (Int × Int))) (h : ∀ q ∈ l, (q.1 * q.2.1 * (W / q.2.2)).natAbs ≤ B) : ∀ t : Int, (tot W l t).natAbs ≤ t.natAbs + l.length * B := by
  induction l with
  | nil => intro t; exact Nat.le_add_right _ _
  | cons q r ih =>
    intro t
    have h1 := ih (fun q m => h q (List.mem_cons_of_mem _ m)) (t + q.1 * q.2.1 * (W / q.2.2))
    have h2 := h q (List.mem_cons_self ..)
    have h3 : (t + q.1 * q.2.1 * (W / q.2.2)).natAbs ≤ t.natAbs + B := by omega
    show (tot W r (t + q.1 * q.2.1 * (W / q.2.2))).natAbs ≤ t.natAbs + (r.length + 1) * B
    rw [Nat.add_mul, Nat.one_mul]
    omega
theorem div_le_gcd (a b : Int) (h : 0 < b) : (a / (Int.gcd a b : Int)).natAbs ≤ a.natAbs ∧ (b / (Int.gcd a b : Int)).natAbs ≤ b.natAbs := by
  have g0 := gcd_pos (a := a) h
  have key : ∀ z : Int, (Int.gcd a b : Int) ∣ z → (z / (Int.gcd a b : Int)).natAbs ≤ z.natAbs := by
    rintro z ⟨e, he⟩
    have : z / (Int.gcd a b : Int) = e := by
      conv => lhs; lhs; rw [he]
      exact Int.mul_ediv_cancel_left _ (by omega)
    rw [this]
    conv => rhs; rw [he]
    rw [Int.natAbs_mul, Int.natAbs_natCast]
    exact Nat.le_mul_of_pos_left _ g0
  exact ⟨key a (Int.gcd_dvd_left ..), key b (Int.gcd_dvd_right ..)⟩
def spAtR : Sp := fun vs H Q _ => ∃ (m : Addr) (c n : Nat), vs = [.ref m, .int (n : Int)] ∧ MAt H m c ∧ c ≤ 700000 ∧ n ≤ 5 ∧
  ∀ H' : Hp, Kp m H H' → MAt H' m (c + 40) → Q (.bl true) H'
section
variable {P : Program} {w : World} {K : PySem.W.Frag} {mg : Str → Option Value} {base : Heap}
theorem sc_law_at_right : FnScope ["m", "count", "form", "point", "whole", "value", "above", "part", "spot"] ["m", "count"] (defScope s_law_at_right) := ⟨rfl, rfl, rfl, by decide +kernel, rfl, by decide +kernel, by decide +kernel⟩
theorem ok_law_at_right (T : Txt P K mg) {k : Nat} : FnG P w K mg base CX0 (k + 5) T.f_law_at_right T.d_law_at_right ["m", "count"] spAtR := by
  refine okG T.F_law_at_right sc_law_at_right (fun vs H Q E h => ?_) (fun cdv A outer s H vs Q E hr gd h => ?_)
  · obtain ⟨m, c, n, rfl, _⟩ := h
    rfl
  obtain ⟨m, c, n, rfl, hm, hc, hn, q⟩ := h
  refine ⟨_, (pss_cons (ps_par (i := 2) (j := 3) (by rfl) sc_law_at_right.nd rfl rfl (by decide) rfl rfl (pa_cons (pe_call (ok_law_form T) hr (by rfl) T.g_law_form T.F_law_form.kp T.b_law_form .nil pass0 (pa_cons (pv 0) (pa_cons (pv 1) pa_nil))) (pa_cons (pe_callTy (tuple_ofK K) (by rfl) T.z_tuple (by decide +kernel) (pa_cons (pe_lc (own := [("spot", 8)]) (g := (gName 8)) rfl sc_law_at_right.nd (pi_range1 rfl T.z_range (pa_cons (pv 1) pa_nil)) (blkOk_by (N := ["m", "count", "form", "point", "whole", "value", "above", "part", "spot"]) (sc := defScope s_law_at_right) (by decide +kernel)) (fun _ _ _ _ _ => (pg_name (i := 8) sc_law_at_right.nd rfl (Or.inl rfl))) (fun _ _ _ _ _ => pts_nil) (fun _ _ _ _ _ => (pe_call (ok_law_some_value T) hr (by rfl) T.g_law_some_value T.F_law_some_value.kp T.b_law_some_value .nil pass0 (pa_cons (pv 0) pa_nil)))) pa_nil)) pa_nil)) (by rfl))
    (pss_cons (ps_set (i := 4) sc_law_at_right.nd rfl (Or.inl rfl) pe_int)
    (pss_cons (ps_for PassesOwn.never rfl (pi_tup (pv 3)) (pg_name (i := 5) sc_law_at_right.nd rfl (Or.inl rfl)) (pss_one (ps_set (i := 4) sc_law_at_right.nd rfl (Or.inl rfl) (pe_op op_mulB (pv 4) (pe_ix (ix_tupK K) (pv 5) pe_int (fun _ _ => rfl))))))
    (pss_cons (ps_set (i := 6) sc_law_at_right.nd rfl (Or.inl rfl) (pe_op op_mulB (pe_ix (ix_tupK K) (pv 2) pe_int (fun _ _ => rfl)) (pv 4)))
    (pss_cons (ps_for PassesOwn.never rfl (RZ.pi_zipA (by rfl) T.z_zip (pa_cons (pe_slice (sl_tupK K) (pv 2) (po_some pe_int) po_none) (pa_cons (pv 3) pa_nil))) (pg_tup rfl (pgs_cons (pg_name (i := 7) sc_law_at_right.nd rfl (Or.inl rfl)) (pgs_cons (pg_name (i := 5) sc_law_at_right.nd rfl (Or.inl rfl)) pgs_nil))) (pss_one (ps_set (i := 6) sc_law_at_right.nd rfl (Or.inl rfl) (pe_op op_add (pv 6) (pe_op op_mulB (pe_op op_mulB (pv 7) (pe_ix (ix_tupK K) (pv 5) pe_int (fun _ _ => rfl))) (pe_op op_fdivW (pv 4) (pe_ix (ix_tupK K) (pv 5) pe_int (fun _ _ => rfl))))))))
    (pss_one (ps_ret (pe_cmpR op_eq (pe_callB (reprK K gd hr) (by rfl) T.z_repr (by decide +kernel) (pa_cons (pe_call (ok_form_at T) hr (by rfl) T.g_form_at T.F_form_at.kp T.b_form_at .nil pass0 (pa_cons (pv 2) (pa_cons (pv 3) pa_nil))) pa_nil)) (pe_callB (reprK K gd hr) (by rfl) T.z_repr (by decide +kernel) (pa_cons (pe_call (ok_law_lowest T) hr (by rfl) T.g_law_lowest T.F_law_lowest.kp T.b_law_lowest .nil pass0 (pa_cons (pv 6) (pa_cons (pv 4) pa_nil))) pa_nil)) (by rfl))))))))), ?_⟩
  try dsimp only [L2.cxOf, L2.Cx.nox]
  walk_at "rd"
  refine ⟨m, c, n, rfl, hm, by omega, by omega, fun fa xs H1 k1 m1 c1 h1 lx low => ?_⟩
  walk_at "rd"
  refine rd_atR (by omega) (by omega) fun D nD => lcDraw walk_range 3 _ (fun acc H' => ∃ ps, PrsAt K H' ps acc ∧ DenOk ps ∧ NumOk ps) m1 nD (by omega) (fun i H x H' _ y => y.1) (fun _ _ => trivial) ?_ ⟨[], .nil, (fun x h => nomatch h), fun x h => nomatch h⟩ (fun x => rfl) ?_ ?_
  · rintro acc H' ys zs hl ⟨ps, hp, hd, hnu⟩
    exact ⟨ps, hp.keep (upd_sqT hl), hd, hnu⟩
  · rintro i x acc H' R hi al k mt ⟨ps, hp, hd, hnu⟩ r
    have hi' : i < n := by omega
    walk_at "rd"
    refine ⟨m, _, rfl, mt, by omega, fun p u v H2 k2 m2 c2 h2 v0 v1 u0 u1 => ?_⟩
    refine r _ H2 k2 (by rw [Nat.mul_add, Nat.mul_one, ← Nat.add_assoc]; exact m2) c2 ⟨ps ++ [(u, v)], (hp.keep fun p xs h => mt.seqT k2 h).append (.cons (sqT h2) .nil), ?_, ?_⟩
    · intro z hz
      rcases List.mem_append.mp hz with hz | hz
      · exact hd z hz
      · obtain rfl := List.mem_singleton.mp hz
        exact ⟨v0, v1⟩
    · intro z hz
      rcases List.mem_append.mp hz with hz | hz
      · exact hnu z hz
      · obtain rfl := List.mem_singleton.mp hz
        exact ⟨u0, u1⟩
  rintro acc H2 al k2 m2 cl hl ⟨ps, hp, hd, hnu⟩
  have lp : ps.length = n := by rw [hp.length, al, Int.toNat_natCast]
  walk_at "rd"
  refine ⟨D, _, rfl, .inl ⟨sqL hl, fun pt npt => ?_⟩⟩
  have s3 := Same.new npt (.tup acc)
  have g3 : SqT K (upd H2 pt (.tup acc)) pt acc := sqT upd_same
  have f3 := s3.seqT (m1.seqT k2 (sqT (K := K) h1))
  have hp3 := hp.keep (same_sqT s3)
  have m3 := m2.same s3
  have k3 := (k1.trans k2).trans (Kp.of s3)
  generalize upd H2 pt (.tup acc) = H3 at s3 g3 f3 hp3 m3 k3
  have lacc : acc.length = ps.length := hp.length.symm
  walk_at "rd"
  refine rd_atT g3 (forT (xs := acc) (fun i σ H' => ∃ y : Option V, σ = [some (.ref m), some (.int (n : Int)), some (.ref fa), some (.ref pt), some (.int (prod (ps.take i))), y, none, none, none] ∧ H' = H3) ⟨none, rfl, rfl⟩ (fun i σ H' _ ⟨_, _, z⟩ => by rw [z]; exact g3) ?_ ?_)
  · rintro i x σ H' hi ⟨y, rfl, rfl⟩
    obtain ⟨u, v, p, hpi, rfl, hpp⟩ := hp3.get hi
    have hil : i < ps.length := (List.getElem?_eq_some_iff.mp hpi).1
    have pp := prod_pos hd i (by omega)
    obtain ⟨v0, v1⟩ := den_lt hd (List.mem_of_getElem? hpi)
    have big : 1000003 ^ i ≤ 1000003 ^ 5 := Nat.pow_le_pow_right (by decide) (by omega)
    walk_at "rd"
    refine rd_ixT hpp (atI_nat (j := 1) rfl) ?_
    refine rd_i (mulB_ok (Nat.lt_of_le_of_lt pp.2.1 (Nat.lt_of_le_of_lt big (by decide))) (Nat.lt_of_le_of_lt v1 (by decide))) ?_
    walk_at "rd"
    refine ⟨some (.ref p), ?_, rfl⟩
    rw [prod_more hpi]
    rfl
  rintro σ H4 ⟨y, rfl, rfl⟩
  rw [lacc, List.take_length]
  have pp := prod_pos hd ps.length (Nat.le_refl _)
  rw [List.take_length] at pp
  have big : 1000003 ^ ps.length ≤ 1000003 ^ 5 := Nat.pow_le_pow_right (by decide) (by omega)
  have hW : (prod ps).natAbs ≤ 10 ^ 31 := Nat.le_trans pp.2.1 (Nat.le_trans big (by decide))
  have W0 := pp.1
  obtain ⟨x0, xr, rfl⟩ : ∃ x r, xs = x :: r := by
    cases xs with
    | nil => cases lx
    | cons x r => exact ⟨x, r, rfl⟩
  have lxr : xr.length = ps.length := by
    rw [lp]
    simpa using lx
  have low' : Low (10 ^ 13) (x0 :: xr) := fun x h => Nat.le_trans (low x h) (by decide)
  walk_at "rd"
  refine rd_ixT f3 (atI_nat (j := 0) rfl) ?_
  walk_at "rd"
  refine rd_i (mulB_ok (Nat.lt_of_le_of_lt (low x0 (List.mem_cons_self ..)) (by decide)) (Nat.lt_of_le_of_lt hW (by decide))) ?_
  walk_at "rd"
  refine rd_tail f3 fun p5 n5 => ?_
  have s5 := Same.new n5 (.tup (xr.map V.int))
  have h5 : SqT K (upd H4 p5 (.tup (xr.map V.int))) p5 (xr.map V.int) := sqT upd_same
  generalize upd H4 p5 (.tup (xr.map V.int)) = H5 at s5 h5
  have g5 := s5.seqT g3
  walk_at "rd"
  have term : ∀ q ∈ xr.zip ps, (q.1 * q.2.1 * (prod ps / q.2.2)).natAbs ≤ 10 ^ 12 * 1000003 * 10 ^ 31 ∧ q.1.natAbs ≤ 10 ^ 12 ∧ q.2.1.natAbs ≤ 1000003 ∧ (prod ps / q.2.2).natAbs ≤ 10 ^ 31 := by
    intro q hq
    obtain ⟨q1, q2⟩ := List.of_mem_zip hq
    have a1 := low q.1 (List.mem_cons_of_mem _ q1)
    obtain ⟨v0, v1⟩ := den_lt hd q2
    have hnn := hnu _ q2
    have a2 : q.2.1.natAbs ≤ 1000003 := by
      have b1 : 0 ≤ q.2.1 := hnn.1
      have b2 : q.2.1 ≤ q.2.2 := hnn.2
      omega
    have a3 : (prod ps / q.2.2).natAbs ≤ 10 ^ 31 := by
      have b1 := Int.ediv_le_self q.2.2 (Int.le_of_lt W0)
      have b2 : 0 ≤ prod ps / q.2.2 := Int.ediv_nonneg (Int.le_of_lt W0) (Int.le_of_lt v0)
      omega
    refine ⟨?_, a1, a2, a3⟩
    rw [Int.natAbs_mul, Int.natAbs_mul]
    exact Nat.mul_le_mul (Nat.mul_le_mul a1 a2) a3
  refine rd_atZ h5 g5 (forZ (xs := xr.map V.int) (ys := acc) (by rw [List.length_map, lxr, lacc]) (fun i σ H' => ∃ y5 y7 y8 : Option V, σ = [some (.ref m), some (.int (n : Int)), some (.ref fa), some (.ref pt), some (.int (prod ps)), y5, some (.int (tot (prod ps) ((xr.zip ps).take i) (x0 * prod ps))), y7, y8] ∧ Same H5 H') ⟨_, _, _, rfl, Same.refl _⟩ (fun i σ H' ⟨_, _, _, _, z⟩ => ⟨z.seqT h5, z.seqT g5⟩) ?_ ?_)
  · rintro i x y T' σ H6 hx hy ⟨y5, y7, y8, rfl, z⟩ hT
    obtain ⟨k', rfl, hk⟩ := wint_at hx
    have sT := Same.new hT (.tup [V.int k', y])
    obtain ⟨u, v, p, hpi, rfl, hpp⟩ := (hp3.keep (same_sqT ((s5.trans z).trans sT))).get hy
    have hz : (xr.zip ps)[i]? = some (k', (u, v)) := by
      rw [List.getElem?_zip_eq_some]
      exact ⟨hk, hpi⟩
    obtain ⟨t0, t1, t2, t3⟩ := term _ (List.mem_of_getElem? hz)
    obtain ⟨v0, v1⟩ := den_lt hd (List.mem_of_getElem? hpi)
    have t12 : (k' * u).natAbs ≤ 10 ^ 12 * 1000003 := by
      rw [Int.natAbs_mul]
      exact Nat.mul_le_mul t1 t2
    refine rd_gtup (sqT upd_same) rfl ?_
    walk_at "rd"
    refine rd_ixT hpp (atI_nat (j := 0) rfl) ?_
    refine rd_i (mulB_ok (Nat.lt_of_le_of_lt t1 (by decide)) (Nat.lt_of_le_of_lt t2 (by decide))) ?_
    walk_at "rd"
    refine rd_ixT hpp (atI_nat (j := 1) rfl) ?_
    refine rd_i (div40 v0 (Nat.lt_of_le_of_lt v1 (by decide))) ?_
    refine rd_i (mulB_ok (Nat.lt_of_le_of_lt t12 (by decide)) (Nat.lt_of_le_of_lt t3 (by decide))) ?_
    walk_at "rd"
    refine ⟨some (.ref p), some (.int k'), y8, ?_, z.trans sT⟩
    rw [tot_more hz]
    rfl
  · rintro σ H6 ⟨y5, y7, y8, rfl, z⟩
    have el : (xr.zip ps).take (xr.map V.int).length = xr.zip ps := by
      rw [List.length_map]
      exact List.take_of_length_le (by rw [List.length_zip, lxr, Nat.min_self]; exact Nat.le_refl _)
    rw [el]
    have s36 := s5.trans z
    have b1 := tot_le (W := prod ps) (B := 10 ^ 12 * 1000003 * 10 ^ 31) (xr.zip ps) (fun q hq => (term q hq).1) (x0 * prod ps)
    have b2 : (x0 * prod ps).natAbs ≤ 10 ^ 12 * 10 ^ 31 := by
      rw [Int.natAbs_mul]
      exact Nat.mul_le_mul (low x0 (List.mem_cons_self ..)) hW
    have b3 : (xr.zip ps).length ≤ 5 := by
      rw [List.length_zip, lxr, Nat.min_self]
      omega
    have b4 : (tot (prod ps) (xr.zip ps) (x0 * prod ps)).natAbs ≤ 10 ^ 12 * 10 ^ 31 + 5 * (10 ^ 12 * 1000003 * 10 ^ 31) := by
      have := Nat.mul_le_mul_right (10 ^ 12 * 1000003 * 10 ^ 31) b3
      omega
    have small : ∀ x ∈ lowT (tot (prod ps) (xr.zip ps) (x0 * prod ps)) (prod ps), x.natAbs < 10 ^ 60 := by
      obtain ⟨d1, d2⟩ := div_le_gcd (tot (prod ps) (xr.zip ps) (x0 * prod ps)) (prod ps) W0
      intro x hx
      unfold lowT at hx
      simp only [List.mem_cons, List.not_mem_nil, or_false] at hx
      rcases hx with rfl | rfl
      · exact Nat.lt_of_le_of_lt d1 (Nat.lt_of_le_of_lt b4 (by decide))
      · exact Nat.lt_of_le_of_lt d2 (Nat.lt_of_le_of_lt hW (by decide))
    walk_at "rd"
    refine ⟨fa, pt, x0, xr, acc, ps, rfl, s36.seqT f3, s36.seqT g3, hp3.keep (same_sqT s36), hd, hnu, lxr, by omega, low', fun p H7 s7 h7 => ?_⟩
    rw [at_same hd] at h7
    walk_at "rd"
    refine rd_reprN _ (sqT h7) small (by show 2 ≤ 10000; decide) ?_
    walk_at "rd"
    refine ⟨_, _, rfl, W0, Nat.lt_of_le_of_lt hW (by decide), fun p8 H8 s8 h8 => ?_⟩
    walk_at "rd"
    refine rd_reprN (lowT (tot (prod ps) (xr.zip ps) (x0 * prod ps)) (prod ps)) (sqT h8) small (by show 2 ≤ 10000; decide) ?_
    walk_at "rd"
    rw [decide_eq_true rfl]
    have s38 := (s36.trans s7).trans s8
    exact q H8 (k3.trans (Kp.of s38)) ((m3.same s38).mono (by omega))
end

theorem ixN_nat' {n s : Nat} (h : s < n) : ixN n (0 + (s : Int)) = some s := by
  rw [Int.zero_add]
  unfold ixN
  rw [if_pos (by omega)]
  first
    | (rw [if_pos (by omega)]; simp)
    | simp [h]
/-- the first s entries new, the others as they were -/
def mixL (s : Nat) (new old : List Int) : List Int := new.take s ++ old.drop s
theorem mixL_len {s : Nat} {new old : List Int} (h : new.length = old.length) : (mixL s new old).length = old.length := by
  unfold mixL
  rw [List.length_append, List.length_take, List.length_drop]
  omega
theorem mixL_at {s : Nat} {new old : List Int} (h : new.length = old.length) (hs : s < old.length) : (mixL s new old)[s]? = old[s]? := by
  unfold mixL
  rw [List.getElem?_append_right (by rw [List.length_take]; omega), List.length_take, Nat.min_eq_left (by omega), Nat.sub_self, List.getElem?_drop, Nat.add_zero]
theorem mixL_set {s : Nat} {new old : List Int} {v : Int} (h : new.length = old.length) (hs : s < old.length) (hv : new[s]? = some v) : (mixL s new old).set s v = mixL (s + 1) new old := by
  unfold mixL
  have e : old.drop s = old[s] :: old.drop (s + 1) := List.drop_eq_getElem_cons hs
  rw [e, List.set_append_right _ _ (by rw [List.length_take]; omega), List.length_take, Nat.min_eq_left (by omega), Nat.sub_self, List.take_add_one, hv, List.append_assoc]
  rfl
theorem mixL_all {new old : List Int} (h : new.length = old.length) : mixL old.length new old = new := by
  unfold mixL
  rw [← h, List.take_length, h, List.drop_length, List.append_nil]
theorem addM_at {m : Int} {t xs : List Int} {s : Nat} {e x : Int} (h1 : t[s]? = some e) (h2 : xs[s]? = some x) : (addM m t xs)[s]? = some (e + m * x) := by
  unfold addM
  rw [List.getElem?_zipWith, h1, h2]
theorem addM_low {m : Int} {B C D : Nat} (hm : m.natAbs ≤ C) : ∀ {t xs : List Int}, Low B t → Low D xs → Low (B + C * D) (addM m t xs)
  | [], xs, _, _ => by unfold addM; rw [List.zipWith_nil_left]; exact fun x h => nomatch h
  | e :: t, [], _, _ => fun x h => nomatch h
  | e :: t, x :: xs, h1, h2 => fun z hz => by
    unfold addM at hz
    rw [List.zipWith_cons_cons] at hz
    rcases List.mem_cons.mp hz with rfl | hz
    · have a := h1 e (List.mem_cons_self ..)
      have b := h2 x (List.mem_cons_self ..)
      have c : (m * x).natAbs ≤ C * D := by
        rw [Int.natAbs_mul]
        exact Nat.mul_le_mul hm b
      omega
    · exact addM_low hm (fun u m => h1 u (List.mem_cons_of_mem _ m)) (fun u m => h2 u (List.mem_cons_of_mem _ m)) z hz
theorem sumM_low {n : Nat} : ∀ (ls : List (List Int × Int)) , (∀ p ∈ ls, Low (10 ^ 13) p.1 ∧ p.2.natAbs ≤ 10 ^ 13) → Low (ls.length * (10 ^ 13 * 10 ^ 13)) (sumM n ls) := by
  suffices g : ∀ (ls : List (List Int × Int)) (t : List Int) (B : Nat), Low B t → (∀ p ∈ ls, Low (10 ^ 13) p.1 ∧ p.2.natAbs ≤ 10 ^ 13) → Low (B + ls.length * (10 ^ 13 * 10 ^ 13)) (ls.foldl (fun t p => addM p.2 t p.1) t) by
    intro ls h
    have := g ls (List.replicate n 0) 0 (fun x hx => by rw [(List.mem_replicate.mp hx).2]; exact Nat.le_refl _) h
    rw [Nat.zero_add] at this
    exact this
  intro ls
  induction ls with
  | nil => intro t B ht _; rw [List.length_nil, Nat.zero_mul]; exact ht
  | cons p r ih =>
    intro t B ht h
    obtain ⟨h1, h2⟩ := h p (List.mem_cons_self ..)
    have := ih (addM p.2 t p.1) (B + 10 ^ 13 * 10 ^ 13) (addM_low h2 ht h1) fun q m => h q (List.mem_cons_of_mem _ m)
    rw [List.length_cons, Nat.add_mul, Nat.one_mul]
    intro x hx
    have := this x hx
    omega
theorem low_mono' {xs : List Int} (h : Low (10 ^ 12) xs) : Low (10 ^ 13) xs := fun x m => Nat.le_trans (h x m) (by decide)

theorem rd_gsub {to ti : TE} {t : TSet} {v : V} {σ : L2.St} {H : Hp} {Q : L2.St → Hp → Prop} (h : to σ H fun x H1 => ti σ H1 fun y H2 => t x y v H2 (Q σ)) : gSub to ti t v σ H Q := h
def spSumR : Sp := fun vs H Q _ => ∃ (m : Addr) (c n : Nat), vs = [.ref m, .int (n : Int)] ∧ MAt H m c ∧ c ≤ 700000 ∧ n ≤ 5 ∧
  ∀ H' : Hp, Kp m H H' → MAt H' m (c + 100) → Q (.bl true) H'
section
variable {P : Program} {w : World} {K : PySem.W.Frag} {mg : Str → Option Value} {base : Heap}
theorem sc_law_sums_right : FnScope ["m", "count", "forms", "multiples", "due", "form", "many", "spot", "opposite_v", "turn", "part"] ["m", "count"] (defScope s_law_sums_right) := ⟨rfl, rfl, rfl, by decide +kernel, rfl, by decide +kernel, by decide +kernel⟩
theorem ok_law_sums_right (T : Txt P K mg) {k : Nat} : FnG P w K mg base CX0 (k + 6) T.f_law_sums_right T.d_law_sums_right ["m", "count"] spSumR := by
  refine okG T.F_law_sums_right sc_law_sums_right (fun vs H Q E h => ?_) (fun cdv A outer s H vs Q E hr gd h => ?_)
  · obtain ⟨m, c, n, rfl, _⟩ := h
    rfl
  obtain ⟨m, c, n, rfl, hm, hc, hn, q⟩ := h
  refine ⟨_, (pss_cons (ps_set (i := 2) sc_law_sums_right.nd rfl (Or.inl rfl) (pe_callTy (tuple_ofK K) (by rfl) T.z_tuple (by decide +kernel) (pa_cons (pe_lc (own := [("turn", 9)]) (g := (gName 9)) rfl sc_law_sums_right.nd (pi_range1 rfl T.z_range (pa_cons (pe_op op_add pe_int (pe_call (ok_law_drawC T) hr (by rfl) T.g_law_draw T.F_law_draw.kp T.b_law_draw .nil pass0 (pa_cons (pv 0) (pa_cons pe_int pa_nil)))) pa_nil)) (blkOk_by (N := ["m", "count", "forms", "multiples", "due", "form", "many", "spot", "opposite_v", "turn", "part"]) (sc := defScope s_law_sums_right) (by decide +kernel)) (fun _ _ _ _ _ => (pg_name (i := 9) sc_law_sums_right.nd rfl (Or.inl rfl))) (fun _ _ _ _ _ => pts_nil) (fun _ _ _ _ _ => (pe_call (ok_law_form T) hr (by rfl) T.g_law_form T.F_law_form.kp T.b_law_form .nil pass0 (pa_cons (pv 0) (pa_cons (pv 1) pa_nil))))) pa_nil)))
    (pss_cons (ps_set (i := 3) sc_law_sums_right.nd rfl (Or.inl rfl) (pe_callTy (tuple_ofK K) (by rfl) T.z_tuple (by decide +kernel) (pa_cons (pe_lc (own := [("form", 5)]) (g := (gName 5)) rfl sc_law_sums_right.nd (pi_tup (pv 2)) (blkOk_by (N := ["m", "count", "forms", "multiples", "due", "form", "many", "spot", "opposite_v", "turn", "part"]) (sc := defScope s_law_sums_right) (by decide +kernel)) (fun _ _ _ _ _ => (pg_name (i := 5) sc_law_sums_right.nd rfl (Or.inl rfl))) (fun _ _ _ _ _ => pts_nil) (fun _ _ _ _ _ => (pe_call (ok_law_whole T) hr (by rfl) T.g_law_whole T.F_law_whole.kp T.b_law_whole .nil pass0 (pa_cons (pv 0) pa_nil)))) pa_nil)))
    (pss_cons (ps_set (i := 4) sc_law_sums_right.nd rfl (Or.inl rfl) (pe_op op_rep (pe_lst (pa_cons pe_int pa_nil)) (pe_op op_add (pv 1) pe_int)))
    (pss_cons (ps_for PassesOwn.never rfl (RZ.pi_zipA (by rfl) T.z_zip (pa_cons (pv 2) (pa_cons (pv 3) pa_nil))) (pg_tup rfl (pgs_cons (pg_name (i := 5) sc_law_sums_right.nd rfl (Or.inl rfl)) (pgs_cons (pg_name (i := 6) sc_law_sums_right.nd rfl (Or.inl rfl)) pgs_nil))) (pss_one (ps_for PassesOwn.never rfl (pi_range1 rfl T.z_range (pa_cons (pe_op op_add (pv 1) pe_int) pa_nil)) (pg_name (i := 7) sc_law_sums_right.nd rfl (Or.inl rfl)) (pss_one (ps_asg (pe_op op_add (pe_ix (ix_listK K) (pv 4) (pv 7) (fun _ _ => rfl)) (pe_op op_mulB (pv 6) (pe_ix (ix_tupK K) (pv 5) (pv 7) (fun _ _ => rfl)))) (pg_sub (pv 4) (pv 7) set_list))))))
    (pss_cons (ps_if (pt_cmpR op_ne (pe_callB (reprK K gd hr) (by rfl) T.z_repr (by decide +kernel) (pa_cons (pe_call (ok_summed T) hr (by rfl) T.g_summed T.F_summed.kp T.b_summed .nil pass0 (pa_cons (pv 2) (pa_cons (pv 3) pa_nil))) pa_nil)) (pe_callB (reprK K gd hr) (by rfl) T.z_repr (by decide +kernel) (pa_cons (pe_callTy (tuple_ofK K) (by rfl) T.z_tuple (by decide +kernel) (pa_cons (pv 4) pa_nil)) pa_nil)) (by rfl)) (pss_one (ps_ret pe_bl)) pss_nil)
    (pss_cons (ps_set (i := 8) sc_law_sums_right.nd rfl (Or.inl rfl) (pe_op (op_catTK K) (pe_tup (pa_cons (pe_op op_sub pe_int (pe_ix (ix_tupK K) (pe_ix (ix_tupK K) (pv 2) pe_int (fun _ _ => rfl)) pe_int (fun _ _ => rfl))) pa_nil)) (pe_callTy (tuple_ofK K) (by rfl) T.z_tuple (by decide +kernel) (pa_cons (pe_lc (own := [("part", 10)]) (g := (gName 10)) rfl sc_law_sums_right.nd (pi_tup (pe_slice (sl_tupK K) (pe_ix (ix_tupK K) (pv 2) pe_int (fun _ _ => rfl)) (po_some pe_int) po_none)) (blkOk_by (N := ["m", "count", "forms", "multiples", "due", "form", "many", "spot", "opposite_v", "turn", "part"]) (sc := defScope s_law_sums_right) (by decide +kernel)) (fun _ _ _ _ _ => (pg_name (i := 10) sc_law_sums_right.nd rfl (Or.inl rfl))) (fun _ _ _ _ _ => pts_nil) (fun _ _ _ _ _ => (pe_un un_neg (pv 10)))) pa_nil))))
    (pss_one (ps_ret (pe_cmpR op_eq (pe_callB (reprK K gd hr) (by rfl) T.z_repr (by decide +kernel) (pa_cons (pe_call (ok_not_form T) hr (by rfl) T.g_not_form T.F_not_form.kp T.b_not_form .nil pass0 (pa_cons (pe_ix (ix_tupK K) (pv 2) pe_int (fun _ _ => rfl)) pa_nil)) pa_nil)) (pe_callB (reprK K gd hr) (by rfl) T.z_repr (by decide +kernel) (pa_cons (pv 8) pa_nil)) (by rfl)))))))))), ?_⟩
  try dsimp only [L2.cxOf, L2.Cx.nox]
  walk_at "rd"
  refine ⟨m, c, 4, rfl, hm, by omega, by decide, by decide, fun r1 H1 r10 r11 k1 m1 c1 => ?_⟩
  walk_at "rd"
  refine rd_atR (by omega) (by omega) fun D nD => lcDraw walk_range (3 * (n + 1)) _ (fun acc H' => ∃ ls, RowsAt K H' ls acc ∧ ∀ l ∈ ls, l.length = n + 1 ∧ Low (10 ^ 12) l) m1 nD (by omega) (fun i H x H' _ y => y.1) (fun _ _ => trivial) ?_ ⟨[], .nil, fun x h => nomatch h⟩ (fun x => rfl) ?_ ?_
  · rintro acc H' ys zs hl ⟨ls, hp, hd⟩
    exact ⟨ls, hp.keep (upd_sqT hl), hd⟩
  · rintro i x acc H' R hi al k mt ⟨ls, hp, hd⟩ r
    have hi' : i < 5 := by omega
    have hmul : 3 * (n + 1) * i ≤ 18 * 5 := Nat.mul_le_mul (by omega) (by omega)
    walk_at "rd"
    refine ⟨m, _, n, rfl, mt, by omega, by omega, fun p xs H2 k2 m2 c2 h2 lx low => ?_⟩
    refine r _ H2 k2 (by rw [Nat.mul_add, Nat.mul_one, ← Nat.add_assoc]; exact m2) c2 ⟨ls ++ [xs], (hp.keep fun p xs h => mt.seqT k2 h).append (.cons (sqT h2) .nil), ?_⟩
    intro z hz
    rcases List.mem_append.mp hz with hz | hz
    · exact hd z hz
    · obtain rfl := List.mem_singleton.mp hz
      exact ⟨lx, low⟩
  rintro acc H2 al k2 m2 cl hl ⟨ls, hp, hd⟩
  have lls : ls.length = acc.length := hp.length
  have l4 : 1 ≤ acc.length ∧ acc.length ≤ 4 := by omega
  have cb : 3 * (n + 1) * acc.length ≤ 18 * 4 := Nat.mul_le_mul (by omega) l4.2
  rw [← al] at m2
  walk_at "rd"
  refine ⟨D, _, rfl, .inl ⟨sqL hl, fun pf npf => ?_⟩⟩
  have s3 := Same.new npf (.tup acc)
  have g3 : SqT K (upd H2 pf (.tup acc)) pf acc := sqT upd_same
  have hp3 := hp.keep (same_sqT s3)
  have m3 := m2.same s3
  have k3 := (k1.trans k2).trans (Kp.of s3)
  generalize upd H2 pf (.tup acc) = H3 at s3 g3 hp3 m3 k3
  walk_at "rd"
  refine rd_atT g3 fun D4 nD4 => lcDraw walk_tup 3 _ (fun ac _ => ∃ ms : List Int, ac = ms.map V.int ∧ Low (10 ^ 12) ms) m3 nD4 (by omega) (fun i H x H' _ y => y.1) (fun H' kk => m3.seqT kk g3) (fun acc H' ys zs _ h => h) ⟨[], rfl, fun x h => nomatch h⟩ (fun x => rfl) ?_ ?_
  · rintro i x ac H' R hi al' k mt ⟨ms, rfl, low⟩ r
    walk_at "rd"
    refine ⟨m, _, rfl, mt, by omega, fun y H2 k2 m2 c2 hy => ?_⟩
    refine r _ H2 k2 (by rw [show 3 * (i + 1) = 3 * i + 3 from rfl, ← Nat.add_assoc]; exact m2) c2 ⟨ms ++ [y], ?_, ?_⟩
    · rw [List.map_append]
      rfl
    · intro z hz
      rcases List.mem_append.mp hz with hz | hz
      · exact low z hz
      · obtain rfl := List.mem_singleton.mp hz
        exact hy
  rintro ac H4 al4 k4 m4 cl4 hl4 ⟨ms, rfl, lowm⟩
  rw [List.length_map] at al4
  walk_at "rd"
  refine ⟨D4, _, rfl, .inl ⟨sqL hl4, fun pm npm => ?_⟩⟩
  have s5 := Same.new npm (.tup (ms.map V.int))
  have g5 : SqT K (upd H4 pm (.tup (ms.map V.int))) pm (ms.map V.int) := sqT upd_same
  have f5 := s5.seqT (m3.seqT k4 g3)
  have hp5 := (hp3.keep fun p xs h => m3.seqT k4 h).keep (same_sqT s5)
  have m5 := m4.same s5
  have k5 := (k3.trans k4).trans (Kp.of s5)
  generalize upd H4 pm (.tup (ms.map V.int)) = H5 at s5 g5 f5 hp5 m5 k5
  walk_at "rd"
  refine ⟨by show 1 ≤ sizeLine; decide, fun p6 n6 => ?_⟩
  have s6 := Same.new n6 (.lst [V.int 0])
  walk_at "rd"
  refine ⟨p6, (n : Int) + 1, _, rfl, rfl, upd_same, by omega, by omega, by rw [sizeLine_eq]; show 1 * ((n : Int) + 1).toNat ≤ _; omega, fun du ndu => ?_⟩
  rw [show ((n : Int) + 1).toNat = n + 1 by omega, rep_one]
  have ndu5 : H5 du = none := by
    cases z : H5 du with
    | none => rfl
    | some o =>
      rw [s6 _ _ z] at ndu
      cases ndu
  have s7 := s6.trans (Same.new ndu (.lst (List.replicate (n + 1) (V.int 0))))
  have g7 : (upd (upd H5 p6 (.lst [V.int 0])) du (.lst (List.replicate (n + 1) (V.int 0)))) du = some (.lst ((List.replicate (n + 1) (0 : Int)).map V.int)) := by rw [upd_same, List.map_replicate]
  generalize upd (upd H5 p6 (.lst [V.int 0])) du (.lst (List.replicate (n + 1) (V.int 0))) = H7 at s7 g7
  have lz : ls.length = ms.length := by rw [lls, al4]
  have fok : FormsOk (n + 1) ls := fun l hl => ⟨(hd l hl).1, low_mono' (hd l hl).2⟩
  have lowm' : Low (10 ^ 13) ms := low_mono' lowm
  walk_at "rd"
  refine rd_atZ (s7.seqT f5) (s7.seqT g5) (forZ (xs := acc) (ys := ms.map V.int) (by rw [List.length_map, al4]) (fun i σ H' => ∃ y5 y6 y7 : Option V, σ = [some (.ref m), some (.int (n : Int)), some (.ref pf), some (.ref pm), some (.ref du), y5, y6, y7, none, none, none] ∧ Same H5 H' ∧
    H' du = some (.lst ((sumM (n + 1) ((ls.zip ms).take i)).map V.int))) ⟨_, _, _, rfl, s7, by rw [List.take_zero]; exact g7⟩ (fun i σ H' ⟨_, _, _, _, z, _⟩ => ⟨z.seqT f5, z.seqT g5⟩) ?_ ?_)
  · rintro i x y T' σ H8 hx hy ⟨y5, y6, y7, rfl, z, hdu⟩ hT
    obtain ⟨mi, rfl, hmi⟩ := wint_at hy
    have s9 := Same.new hT (.tup [x, V.int mi])
    obtain ⟨l, p, hl', rfl, hpp⟩ := (hp5.keep (same_sqT (z.trans s9))).get hx
    have hz : (ls.zip ms)[i]? = some (l, mi) := by
      rw [List.getElem?_zip_eq_some]
      exact ⟨hl', hmi⟩
    obtain ⟨ll, lowl⟩ := fok l (List.mem_of_getElem? hl')
    have lowmi := lowm' mi (List.mem_of_getElem? hmi)
    have lold : (sumM (n + 1) ((ls.zip ms).take i)).length = n + 1 := sumM_len fun q hq => (fok q.1 (List.of_mem_zip (List.mem_of_mem_take hq)).1).1
    have lnew : (addM mi (sumM (n + 1) ((ls.zip ms).take i)) l).length = n + 1 := by
      unfold addM
      rw [List.length_zipWith, lold, ll, Nat.min_self]
    generalize hold : sumM (n + 1) ((ls.zip ms).take i) = old at hdu lold lnew
    have hdu9 := s9 _ _ hdu
    refine rd_gtup (sqT upd_same) rfl ?_
    have z9 := z.trans s9
    generalize upd H8 T' (.tup [V.ref p, V.int mi]) = H9 at hpp hdu9 z9
    walk_at "rd"
    refine rd_atR (by omega) (by omega) (forR (n := ((n : Int) + 1).toNat) (lo := 0) (fun s σ H' => ∃ y7 : Option V, σ = [some (.ref m), some (.int (n : Int)), some (.ref pf), some (.ref pm), some (.ref du), some (.ref p), some (.int mi), y7, none, none, none] ∧ Same H5 H' ∧ SqT K H' p (l.map V.int) ∧
      H' du = some (.lst ((mixL s (addM mi old l) old).map V.int))) ⟨_, rfl, z9, hpp, hdu9⟩ ?_ ?_)
    · rintro s σ Ha hs ⟨y7, rfl, za, hpa, ha⟩
      have hs1 : s < n + 1 := by omega
      have e1 : old[s]? = some old[s] := List.getElem?_eq_getElem (by omega)
      have e2 : l[s]? = some l[s] := List.getElem?_eq_getElem (by omega)
      have lx := lowl l[s] (List.getElem_mem _)
      have lml : (mixL s (addM mi old l) old).length = n + 1 := by rw [mixL_len (lnew.trans lold.symm), lold]
      walk_at "rd"
      refine rd_ixL (v := .int old[s]) (sqL ha) (by rw [Int.zero_add]; exact atI_nat (by rw [List.getElem?_map, mixL_at (lnew.trans lold.symm) (by omega), e1]; rfl)) ?_
      walk_at "rd"
      refine rd_ixT (v := .int l[s]) hpa (by rw [Int.zero_add]; exact atI_nat (by rw [List.getElem?_map, e2]; rfl)) ?_
      refine rd_i (mulB_ok (Nat.lt_of_le_of_lt lowmi (by decide)) (Nat.lt_of_le_of_lt lx (by decide))) ?_
      walk_at "rd"
      refine rd_gsub ?_
      walk_at "rd"
      refine ⟨du, _, _, s, rfl, rfl, ha, ixN_nat' (by rw [List.length_map, lml]; exact hs1), ?_⟩
      refine ⟨_, rfl, za.put ndu5 _, ?_, ?_⟩
      · exact upd_sqT ha _ _ hpa
      · rw [upd_same, ← List.map_set, mixL_set (lnew.trans lold.symm) (by omega) (addM_at e1 e2)]
    · rintro σ Ha ⟨y7, rfl, za, hpa, ha⟩
      rw [show ((n : Int) + 1).toNat = old.length by omega, mixL_all (lnew.trans lold.symm)] at ha
      refine ⟨_, _, y7, rfl, za, ?_⟩
      rw [sumM_more hz, hold]
      exact ha
  · rintro σ H8 ⟨y5, y6, y7, rfl, z, hdu⟩
    have el : (ls.zip ms).take acc.length = ls.zip ms := List.take_of_length_le (by rw [List.length_zip, lz, Nat.min_self, ← lz, lls]; exact Nat.le_refl _)
    rw [el] at hdu
    have f8 := z.seqT f5
    have g8 := z.seqT g5
    have hp8 := hp5.keep (same_sqT z)
    have lne : ls ≠ [] := fun e => by
      rw [e, List.length_nil] at lls
      omega
    have lsl : (sumM (n + 1) (ls.zip ms)).length = n + 1 := sumM_len fun q hq => (fok q.1 (List.of_mem_zip hq).1).1
    have lows := sumM_low (n := n + 1) (ls.zip ms) fun q hq => ⟨(fok q.1 (List.of_mem_zip hq).1).2, lowm' q.2 (List.of_mem_zip hq).2⟩
    have lzip : (ls.zip ms).length ≤ 4 := by
      rw [List.length_zip, lz, Nat.min_self]
      omega
    have small : ∀ x ∈ sumM (n + 1) (ls.zip ms), x.natAbs < 10 ^ 60 := fun x hx => by
      have a1 := lows x hx
      have a2 := Nat.mul_le_mul_right (10 ^ 13 * 10 ^ 13) lzip
      exact Nat.lt_of_le_of_lt (Nat.le_trans a1 a2) (by decide)
    walk_at "rd"
    refine ⟨pf, pm, acc, ls, ms, n + 1, rfl, f8, hp8, g8, lz, lne, by omega, by omega, fok, lowm', fun p9 H9 s9 h9 => ?_⟩
    walk_at "rd"
    refine rd_reprN _ (sqT h9) small (by rw [lsl]; omega) ?_
    walk_at "rd"
    refine ⟨du, _, rfl, .inl ⟨sqL (s9 _ _ hdu), fun p10 n10 => ?_⟩⟩
    have s10 := Same.new n10 (.tup ((sumM (n + 1) (ls.zip ms)).map V.int))
    walk_at "rd"
    refine rd_reprN (sumM (n + 1) (ls.zip ms)) (sqT upd_same) small (by rw [lsl]; omega) ?_
    have z10 := z.trans (s9.trans s10)
    generalize upd H9 p10 (.tup ((sumM (n + 1) (ls.zip ms)).map V.int)) = H10 at z10
    walk_at "rd"
    refine rd_neq ?_
    walk_at "rd"
    have f10 := z10.seqT f5
    have hp10 := hp5.keep (same_sqT z10)
    have hw0 : acc[0]? = some acc[0] := List.getElem?_eq_getElem (by omega)
    obtain ⟨l0, q0, e0, ew, h0⟩ := hp10.get hw0
    rw [ew] at hw0
    obtain ⟨len0, low0⟩ := fok l0 (List.mem_of_getElem? e0)
    obtain ⟨x0, r0, rfl⟩ : ∃ x r, l0 = x :: r := by
      cases l0 with
      | nil => cases len0
      | cons x r => exact ⟨x, r, rfl⟩
    rw [List.length_cons] at len0
    refine rd_ixT f10 (atI_nat (j := 0) hw0) ?_
    walk_at "rd"
    refine rd_ixT h0 (atI_nat (j := 0) rfl) ?_
    walk_at "rd"
    refine ⟨by show 1 ≤ sizeLine; decide, fun p11 n11 => ?_⟩
    have s11 := Same.new n11 (.tup [V.int (1 - x0)])
    have h11 : (upd H10 p11 (.tup [V.int (1 - x0)])) p11 = some (.tup [V.int (1 - x0)]) := upd_same
    generalize upd H10 p11 (.tup [V.int (1 - x0)]) = H11 at s11 h11
    walk_at "rd"
    refine rd_ixT (s11.seqT f10) (atI_nat (j := 0) hw0) ?_
    walk_at "rd"
    refine rd_tail (s11.seqT h0) fun p12 n12 => ?_
    have s12 := Same.new n12 (.tup (r0.map V.int))
    have h12 : SqT K (upd H11 p12 (.tup (r0.map V.int))) p12 (r0.map V.int) := sqT upd_same
    generalize upd H11 p12 (.tup (r0.map V.int)) = H12 at s12 h12
    refine rd_atT h12 fun D13 n13 => lc_src walk_tup (fun i => (r0.map V.int).getD i .non) ?_ (fun _ => true) (fun i => V.int ((r0.map fun x => -x).getD i 0)) (by rw [List.length_map]; omega) n13 (fun H2 z => z.seqT h12) (fun x => rfl) ?_ ?_ ?_
    · rintro i Ha x Hb hi ⟨rfl, e⟩
      rw [List.getD_eq_getElem?_getD, e]
      exact ⟨rfl, rfl⟩
    · intro i H2 R hi z r
      exact rd_yes r
    · intro i H2 R hi hf z r
      rw [List.length_map] at hi
      rw [wint_get hi]
      walk_at "rd"
      have e : (r0.map fun x => -x).getD i 0 = -(r0.getD i 0) := by
        rw [List.getD_eq_getElem?_getD, List.getD_eq_getElem?_getD, List.getElem?_map, List.getElem?_eq_getElem hi]
        rfl
      rw [e] at r
      exact r H2 (Same.refl _)
    intro H13 s13 g13
    rw [given_all _ (r0.map fun x => -x) (by rw [List.length_map, List.length_map])] at g13
    walk_at "rd"
    refine ⟨D13, _, rfl, .inl ⟨sqL g13, fun p14 n14 => ?_⟩⟩
    have s14 := Same.new n14 (.tup ((r0.map fun x => -x).map V.int))
    have z14 := (s12.trans s13).trans s14
    refine rd_catT (sqT (z14 _ _ h11)) (sqT upd_same) (List.cons_ne_nil _ _) (by rw [List.length_map, List.length_map]; show 1 + r0.length ≤ 1000000; omega) fun p15 H15 s15 h15 => ?_
    have z15 := s11.trans (z14.trans s15)
    have small1 : ∀ x ∈ oneLess (x0 :: r0), x.natAbs < 10 ^ 60 := by
      intro x hx
      rcases List.mem_cons.mp hx with rfl | hx
      · have := low0 x0 (List.mem_cons_self ..)
        exact Nat.lt_of_le_of_lt (show (1 - x0).natAbs ≤ 10 ^ 13 + 1 by omega) (by decide)
      · obtain ⟨y, hy, rfl⟩ := List.mem_map.mp hx
        have := low0 y (List.mem_cons_of_mem _ hy)
        exact Nat.lt_of_le_of_lt (show (-y).natAbs ≤ 10 ^ 13 by omega) (by decide)
    have lone : (oneLess (x0 :: r0)).length ≤ 10000 := by
      show ((1 - x0) :: r0.map fun y => -y).length ≤ 10000
      rw [List.length_cons, List.length_map]
      omega
    walk_at "rd"
    refine rd_ixT (z15.seqT f10) (atI_nat (j := 0) hw0) ?_
    walk_at "rd"
    refine ⟨q0, x0 :: r0, rfl, z15.seqT h0, List.cons_ne_nil _ _, by rw [List.length_cons]; omega, fun p16 H16 s16 h16 => ?_⟩
    walk_at "rd"
    refine rd_reprN _ h16 small1 lone ?_
    walk_at "rd"
    refine rd_reprN (oneLess (x0 :: r0)) (s16.seqT h15) small1 lone ?_
    walk_at "rd"
    rw [decide_eq_true rfl]
    have zz := z10.trans (z15.trans s16)
    exact q H16 (k5.trans (Kp.of zz)) ((m5.same zz).mono (by omega))
end

def indL (v : Int) (i n : Nat) : List Int := (List.range n).map fun o => if o = i then v else 0
theorem indL_eq {v : Int} {i n : Nat} (h : i < n) : indL v i n = List.replicate i 0 ++ v :: List.replicate (n - i - 1) 0 := by
  unfold indL
  refine List.ext_getElem? fun j => ?_
  rw [List.getElem?_map]
  by_cases hj : j < n
  · rw [List.getElem?_range hj]
    by_cases h1 : j < i
    · rw [List.getElem?_append_left (by rw [List.length_replicate]; exact h1), List.getElem?_replicate, if_pos h1]
      show some (if j = i then v else 0) = some 0
      rw [if_neg (by omega)]
    · rw [List.getElem?_append_right (by rw [List.length_replicate]; omega), List.length_replicate]
      by_cases h2 : j = i
      · subst h2
        rw [Nat.sub_self]
        show some (if j = j then v else 0) = some v
        rw [if_pos rfl]
      · obtain ⟨d, hd⟩ : ∃ d, j - i = d + 1 := ⟨j - i - 1, by omega⟩
        rw [hd, List.getElem?_cons_succ, List.getElem?_replicate, if_pos (by omega)]
        show some (if j = i then v else 0) = some 0
        rw [if_neg h2]
  · rw [List.getElem?_eq_none (by rw [List.length_range]; omega), List.getElem?_eq_none (by rw [List.length_append, List.length_cons, List.length_replicate, List.length_replicate]; omega)]
    rfl
theorem unit_ind {i n : Nat} (h : i < n) : 0 :: indL 1 i n = unitL i n := by
  rw [indL_eq h]
  unfold unitL
  rw [List.replicate_succ]
  rfl
theorem less_ind {i n : Nat} (h : i < n) : 1 :: indL (-1) i n = oneLess (unitL i n) := by
  rw [← unit_ind h]
  show 1 :: indL (-1) i n = (1 - 0) :: (indL 1 i n).map fun y => -y
  unfold indL
  rw [List.map_map]
  congr 1
  refine List.map_congr_left fun o _ => ?_
  show (if o = i then (-1 : Int) else 0) = -(if o = i then 1 else 0)
  split <;> rfl
theorem mid_rows : ∀ ls : List (List Int), (∀ l ∈ ls, ∀ x ∈ l, x.natAbs < 10 ^ 60) → midDs (ls.map fun l => .tuple (l.map PyData.int)) = true
  | [], _ => rfl
  | l :: r, h => by
    rw [List.map_cons, midDs, midD, mid_intL l (h l (List.mem_cons_self ..)), mid_rows r fun q m => h q (List.mem_cons_of_mem _ m)]
    rfl
theorem depth_rows : ∀ ls : List (List Int), PyData.depthAll (ls.map fun l => .tuple (l.map PyData.int)) ≤ 1
  | [] => Nat.zero_le _
  | l :: r => by
    rw [List.map_cons, PyData.depthAll, PyData.depth, depth_intL]
    have := depth_rows r
    omega
theorem bulk_rows {B : Nat} : ∀ ls : List (List Int), (∀ l ∈ ls, l.length ≤ B) → PyData.bulkAll (ls.map fun l => .tuple (l.map PyData.int)) ≤ ls.length * (B + 1)
  | [], _ => Nat.zero_le _
  | l :: r, h => by
    rw [List.map_cons, PyData.bulkAll, PyData.bulk, bulk_intL, List.length_cons, Nat.add_mul, Nat.one_mul]
    have h1 := h l (List.mem_cons_self ..)
    have h2 := bulk_rows r fun q m => h q (List.mem_cons_of_mem _ m)
    omega
theorem faces_ok {n : Nat} : ∀ i, i ≤ n → (facesL n i).length = 2 * i ∧ ∀ l ∈ facesL n i, l.length = n + 1 ∧ ∀ x ∈ l, x.natAbs ≤ 1
  | 0, _ => ⟨rfl, fun l h => nomatch h⟩
  | i + 1, hi => by
    obtain ⟨h1, h2⟩ := faces_ok i (Nat.le_of_succ_le hi)
    have hi' : i < n := hi
    refine ⟨by show (facesL n i ++ [_, _]).length = 2 * (i + 1); rw [List.length_append, h1]; rfl, fun l hl => ?_⟩
    have ind : ∀ v : Int, v.natAbs ≤ 1 → ∀ x ∈ indL v i n, x.natAbs ≤ 1 := fun v hv x hx => by
      obtain ⟨o, _, rfl⟩ := List.mem_map.mp hx
      split
      · exact hv
      · exact Nat.zero_le _
    have li : ∀ v : Int, (indL v i n).length = n := fun v => by
      unfold indL
      rw [List.length_map, List.length_range]
    rcases List.mem_append.mp hl with hl | hl
    · exact h2 l hl
    · simp only [List.mem_cons, List.not_mem_nil, or_false] at hl
      rcases hl with rfl | rfl
      · rw [← unit_ind hi']
        refine ⟨by rw [List.length_cons, li], fun x hx => ?_⟩
        rcases List.mem_cons.mp hx with rfl | hx
        · decide
        · exact ind 1 (by decide) x hx
      · rw [← less_ind hi']
        refine ⟨by rw [List.length_cons, li], fun x hx => ?_⟩
        rcases List.mem_cons.mp hx with rfl | hx
        · decide
        · exact ind (-1) (by decide) x hx
def spFacesR : Sp := fun vs H Q _ => ∃ n : Nat, vs = [.int (n : Int)] ∧ n ≤ 5 ∧ ∀ H' : Hp, Same H H' → Q (.bl true) H'
section
variable {P : Program} {w : World} {K : PySem.W.Frag} {mg : Str → Option Value} {base : Heap}
theorem sc_law_faces_right : FnScope ["count", "due", "spot", "other"] ["count"] (defScope s_law_faces_right) := ⟨rfl, rfl, rfl, by decide +kernel, rfl, by decide +kernel, by decide +kernel⟩
theorem ok_law_faces_right (T : Txt P K mg) {k : Nat} : FnG P w K mg base CX0 (k + 5) T.f_law_faces_right T.d_law_faces_right ["count"] spFacesR := by
  refine okG T.F_law_faces_right sc_law_faces_right (fun vs H Q E h => ?_) (fun cdv A outer s H vs Q E hr gd h => ?_)
  · obtain ⟨n, rfl, _⟩ := h
    rfl
  obtain ⟨n, rfl, hn, q⟩ := h
  refine ⟨_, (pss_cons (ps_set (i := 1) sc_law_faces_right.nd rfl (Or.inl rfl) (pe_lst pa_nil))
    (pss_cons (ps_for PassesOwn.never rfl (pi_range1 rfl T.z_range (pa_cons (pv 0) pa_nil)) (pg_name (i := 2) sc_law_faces_right.nd rfl (Or.inr rfl)) (pss_cons (ps_expr (pe_bm PySem.F.plainAttrs_list PySem.F.slot_list_append PySem.F.type_list_append mt_append (pv 1) (pa_cons (pe_callTy (tuple_ofK K) (by rfl) T.z_tuple (by decide +kernel) (pa_cons (pe_op op_cat (pe_lst (pa_cons pe_int pa_nil)) (pe_lc (own := [("other", 3)]) (g := (gName 3)) rfl sc_law_faces_right.nd (pi_range1 rfl T.z_range (pa_cons (pv 0) pa_nil)) (blkOk_by (N := ["count", "due", "spot", "other"]) (sc := defScope s_law_faces_right) (by decide +kernel)) (fun _ _ _ _ _ => (pg_name (i := 3) sc_law_faces_right.nd rfl (Or.inl rfl))) (fun _ _ _ _ _ => pts_nil) (fun _ _ _ _ _ => (pe_ifExp (pt_cmpR op_eq (pv 3) (pv 2) (by rfl)) pe_int pe_int)))) pa_nil)) pa_nil)))
    (pss_one (ps_expr (pe_bm PySem.F.plainAttrs_list PySem.F.slot_list_append PySem.F.type_list_append mt_append (pv 1) (pa_cons (pe_callTy (tuple_ofK K) (by rfl) T.z_tuple (by decide +kernel) (pa_cons (pe_op op_cat (pe_lst (pa_cons pe_int pa_nil)) (pe_lc (own := [("other", 3)]) (g := (gName 3)) rfl sc_law_faces_right.nd (pi_range1 rfl T.z_range (pa_cons (pv 0) pa_nil)) (blkOk_by (N := ["count", "due", "spot", "other"]) (sc := defScope s_law_faces_right) (by decide +kernel)) (fun _ _ _ _ _ => (pg_name (i := 3) sc_law_faces_right.nd rfl (Or.inl rfl))) (fun _ _ _ _ _ => pts_nil) (fun _ _ _ _ _ => (pe_ifExp (pt_cmpR op_eq (pv 3) (pv 2) (by rfl)) (pe_un un_neg pe_int) pe_int)))) pa_nil)) pa_nil))))))
    (pss_one (ps_ret (pe_cmpR op_eq (pe_callB (reprK K gd hr) (by rfl) T.z_repr (by decide +kernel) (pa_cons (pe_call (ok_faces T) hr (by rfl) T.g_faces T.F_faces.kp T.b_faces .nil pass0 (pa_cons (pv 0) pa_nil)) pa_nil)) (pe_callB (reprK K gd hr) (by rfl) T.z_repr (by decide +kernel) (pa_cons (pe_callTy (tuple_ofK K) (by rfl) T.z_tuple (by decide +kernel) (pa_cons (pv 1) pa_nil)) pa_nil)) (by rfl)))))), ?_⟩
  try dsimp only [L2.cxOf, L2.Cx.nox]
  walk_at "rd"
  refine ⟨Nat.zero_le _, fun d nd => ?_⟩
  walk_at "rd"
  refine rd_atR (by omega) (by omega) (forR (n := n) (lo := 0) (fun i σ H' => ∃ (y : Option V) (ws : List V), σ = [some (.int (n : Int)), some (.ref d), y, none] ∧ Same H H' ∧ H' d = some (.lst ws) ∧ RowsAt K H' (facesL n i) ws ∧ ws.length = 2 * i)
    ⟨none, [], rfl, Same.new nd _, upd_same, .nil, rfl⟩ ?_ ?_)
  · rintro i σ H1 hi ⟨y, ws, rfl, s1, h1, r1, l1⟩
    have szn : ((n : Int)).toNat = n := Int.toNat_natCast n
    -- one row of the due ones
    have row : ∀ (v : Int) (i' : Nat), decide (V.int (0 + (i' : Int)) = V.int (0 + (i : Int))) = decide (i' = i) := fun v i' => by
      by_cases c : i' = i
      · subst c
        rw [decide_eq_true rfl, decide_eq_true rfl]
      · rw [decide_eq_false c, decide_eq_false fun z => c (by have := V.int.inj z; omega)]
    walk_at "rd"
    refine rd_tyL (sqL h1) ?_
    walk_at "rd"
    refine ⟨by show 1 ≤ sizeLine; decide, fun p2 n2 => ?_⟩
    have s2 := Same.new n2 (.lst [V.int 0])
    have g2 : (upd H1 p2 (.lst [V.int 0])) p2 = some (.lst [V.int 0]) := upd_same
    generalize upd H1 p2 (.lst [V.int 0]) = H2 at s2 g2
    walk_at "rd"
    refine rd_atR (by omega) (by omega) fun D3 n3 => lc_src walk_range (fun i' => V.int (0 + (i' : Int))) (fun i' Ha x Hb _ y => ⟨y.1, y.2⟩) (fun _ => true) (fun i' => V.int ((indL 1 i n).getD i' 0)) (by omega) n3 (fun _ _ => trivial) (fun x => rfl) (fun i' H' R hi' z r => rd_yes r) ?_ ?_
    · intro i' H' R hi' hf z r
      rw [szn] at hi'
      have e : (indL 1 i n).getD i' 0 = if i' = i then 1 else 0 := by
        unfold indL
        rw [List.getD_eq_getElem?_getD, List.getElem?_map, List.getElem?_range hi']
        rfl
      rw [e] at r
      walk_at "rd"
      rw [row 1]
      refine rd_two (fun c => ?_) (fun c => ?_)
      · rw [if_pos c] at r
        walk_at "rd"
        exact r H' (Same.refl _)
      · rw [if_neg c] at r
        walk_at "rd"
        exact r H' (Same.refl _)
    intro H4 s4 g4
    rw [szn, given_all n (indL 1 i n) (by unfold indL; rw [List.length_map, List.length_range])] at g4
    have li : ∀ v : Int, (indL v i n).length = n := fun v => by
      unfold indL
      rw [List.length_map, List.length_range]
    refine rd_cat (s4 _ _ g2) g4 (by rw [List.length_map, li]; show 1 + n ≤ 1000000; omega) fun p5 n5 => ?_
    walk_at "rd"
    refine ⟨p5, _, rfl, .inl ⟨sqL upd_same, fun t6 n6 => ?_⟩⟩
    have s6 := ((s2.trans s4).trans (Same.new n5 (.lst ([V.int 0] ++ (indL 1 i n).map V.int)))).trans (Same.new n6 (.tup ([V.int 0] ++ (indL 1 i n).map V.int)))
    have t6' : SqT K (upd (upd H4 p5 (.lst ([V.int 0] ++ (indL 1 i n).map V.int))) t6 (.tup ([V.int 0] ++ (indL 1 i n).map V.int))) t6 ((unitL i n).map V.int) := by
      rw [← unit_ind hi]
      exact sqT upd_same
    generalize upd (upd H4 p5 (.lst ([V.int 0] ++ (indL 1 i n).map V.int))) t6 (.tup ([V.int 0] ++ (indL 1 i n).map V.int)) = H6 at s6 t6'
    walk_at "rd"
    have h6 := s6 _ _ h1
    refine rd_append h6 (by omega) ?_
    have k7 := upd_sqT (K := K) (ys := ws ++ [V.ref t6]) h6
    have g7 : (upd H6 d (.lst (ws ++ [V.ref t6]))) d = some (.lst (ws ++ [V.ref t6])) := upd_same
    have r7 := ((r1.keep (same_sqT s6)).append (.cons t6' .nil)).keep k7
    have s7 : Same H (upd H6 d (.lst (ws ++ [V.ref t6]))) := (s1.trans s6).put nd _
    generalize upd H6 d (.lst (ws ++ [V.ref t6])) = H7 at g7 r7 s7
    walk_at "rd"
    refine rd_tyL (sqL g7) ?_
    walk_at "rd"
    refine ⟨by show 1 ≤ sizeLine; decide, fun p8 n8 => ?_⟩
    have s8 := Same.new n8 (.lst [V.int 1])
    have g8 : (upd H7 p8 (.lst [V.int 1])) p8 = some (.lst [V.int 1]) := upd_same
    generalize upd H7 p8 (.lst [V.int 1]) = H8 at s8 g8
    walk_at "rd"
    refine rd_atR (by omega) (by omega) fun D9 n9 => lc_src walk_range (fun i' => V.int (0 + (i' : Int))) (fun i' Ha x Hb _ y => ⟨y.1, y.2⟩) (fun _ => true) (fun i' => V.int ((indL (-1) i n).getD i' 0)) (by omega) n9 (fun _ _ => trivial) (fun x => rfl) (fun i' H' R hi' z r => rd_yes r) ?_ ?_
    · intro i' H' R hi' hf z r
      rw [szn] at hi'
      have e : (indL (-1) i n).getD i' 0 = if i' = i then -1 else 0 := by
        unfold indL
        rw [List.getD_eq_getElem?_getD, List.getElem?_map, List.getElem?_range hi']
        rfl
      rw [e] at r
      walk_at "rd"
      rw [row 1]
      refine rd_two (fun c => ?_) (fun c => ?_)
      · rw [if_pos c] at r
        walk_at "rd"
        exact r H' (Same.refl _)
      · rw [if_neg c] at r
        walk_at "rd"
        exact r H' (Same.refl _)
    intro H10 s10 g10
    rw [szn, given_all n (indL (-1) i n) (li _)] at g10
    refine rd_cat (s10 _ _ g8) g10 (by rw [List.length_map, li]; show 1 + n ≤ 1000000; omega) fun p11 n11 => ?_
    walk_at "rd"
    refine ⟨p11, _, rfl, .inl ⟨sqL upd_same, fun t12 n12 => ?_⟩⟩
    have s12 := ((s8.trans s10).trans (Same.new n11 (.lst ([V.int 1] ++ (indL (-1) i n).map V.int)))).trans (Same.new n12 (.tup ([V.int 1] ++ (indL (-1) i n).map V.int)))
    have t12' : SqT K (upd (upd H10 p11 (.lst ([V.int 1] ++ (indL (-1) i n).map V.int))) t12 (.tup ([V.int 1] ++ (indL (-1) i n).map V.int))) t12 ((oneLess (unitL i n)).map V.int) := by
      rw [← less_ind hi]
      exact sqT upd_same
    generalize upd (upd H10 p11 (.lst ([V.int 1] ++ (indL (-1) i n).map V.int))) t12 (.tup ([V.int 1] ++ (indL (-1) i n).map V.int)) = H12 at s12 t12'
    walk_at "rd"
    have h12 := s12 _ _ g7
    refine rd_append h12 (by rw [List.length_append]; show ws.length + 1 < 1000000; omega) ?_
    have k13 := upd_sqT (K := K) (ys := (ws ++ [V.ref t6]) ++ [V.ref t12]) h12
    refine ⟨_, ws ++ [V.ref t6, V.ref t12], rfl, (s7.trans s12).put nd _, ?_, ?_, ?_⟩
    · rw [upd_same, List.append_assoc]
      rfl
    · have r13 := ((r7.keep (same_sqT s12)).append (.cons t12' .nil)).keep k13
      have e1 : facesL n (i + 1) = (facesL n i ++ [unitL i n]) ++ [oneLess (unitL i n)] := by
        rw [List.append_assoc]
        rfl
      have e2 : ws ++ [V.ref t6, V.ref t12] = (ws ++ [V.ref t6]) ++ [V.ref t12] := by
        rw [List.append_assoc]
        rfl
      rw [e1, e2]
      exact r13
    · rw [List.length_append, l1]
      rfl
  · rintro σ H1 ⟨y, ws, rfl, s1, h1, r1, l1⟩
    obtain ⟨fl, fo⟩ := faces_ok (n := n) n (Nat.le_refl _)
    have dp : (PyData.tuple ((facesL n n).map fun l => .tuple (l.map PyData.int))).depth ≤ 150 := by
      rw [PyData.depth]
      have := depth_rows (facesL n n)
      omega
    have bk : (PyData.tuple ((facesL n n).map fun l => .tuple (l.map PyData.int))).bulk ≤ 10000 := by
      rw [PyData.bulk]
      have h := bulk_rows (B := 6) (facesL n n) fun l hl => by have := (fo l hl).1; omega
      rw [fl] at h
      omega
    have mid : midD (.tuple ((facesL n n).map fun l => .tuple (l.map PyData.int))) = true := by
      rw [midD]
      exact mid_rows _ fun l hl x hx => Nat.lt_of_le_of_lt ((fo l hl).2 x hx) (by decide)
    walk_at "rd"
    refine ⟨n, rfl, by omega, fun p vs H2 s2 h2 r2 => ?_⟩
    walk_at "rd"
    refine rd_reprM (.tup (sqT h2) r2.dp) mid bk dp ?_
    walk_at "rd"
    refine ⟨d, _, rfl, .inl ⟨sqL (s2 _ _ h1), fun p3 n3 => ?_⟩⟩
    have s3 := Same.new n3 (.tup ws)
    walk_at "rd"
    refine rd_reprM (.tup (sqT upd_same) (r1.keep (same_sqT (s2.trans s3))).dp) mid bk dp ?_
    walk_at "rd"
    rw [decide_eq_true rfl]
    exact q _ (s1.trans (s2.trans s3))
end

def ev5 : List Str := ["x", "y", "z", "abcdefgh", "x1"]
theorem ev5_ok : ∀ x ∈ ev5, PyData.strOk x = true ∧ x.cps.size ≤ 20 := by
  unfold ev5
  decide +kernel
theorem ev5_rot : ∀ f, f < 5 → (ev5.drop f ++ ev5.take f).Nodup ∧ ∀ x ∈ ev5.drop f ++ ev5.take f, x ∈ ev5 := by
  unfold ev5
  decide +kernel
theorem cut_hi' (fs : List Str) (n : Nat) : cutV (fs.map V.str) none (some (n : Int)) = (fs.take n).map V.str := by
  unfold cutV
  rw [HT.sIx_none, HT.sIx_nat, List.drop_zero, List.map_take, Nat.sub_zero, List.length_map]
  by_cases h : n ≤ fs.length
  · rw [Nat.min_eq_left h]
  · rw [Nat.min_eq_right (by omega), List.take_of_length_le (by rw [List.length_map]; omega), List.take_of_length_le (by rw [List.length_map]; omega)]
theorem cut_lo' (fs : List Str) (n : Nat) : cutV (fs.map V.str) (some (n : Int)) none = (fs.drop n).map V.str := by
  unfold cutV
  rw [HT.sIx_none, HT.sIx_nat, List.map_drop, List.length_map]
  by_cases h : n ≤ fs.length
  · rw [Nat.min_eq_left h, List.take_of_length_le (by rw [List.length_drop, List.length_map]; exact Nat.le_refl _)]
  · rw [Nat.min_eq_right (by omega), List.drop_eq_nil_of_le (show (fs.map V.str).length ≤ n by rw [List.length_map]; omega), List.drop_eq_nil_of_le (show (fs.map V.str).length ≤ fs.length by rw [List.length_map]; exact Nat.le_refl _), List.take_nil]
/-- the places of a name -/
def indS (fs : List Str) (x : Str) : List Int := fs.map fun o => if o = x then 1 else 0
theorem indS_eq {fs : List Str} (hn : fs.Nodup) {x : Str} {j : Nat} (hj : fs[j]? = some x) : indS fs x = indL 1 j fs.length := by
  unfold indS indL
  refine List.ext_getElem? fun i => ?_
  rw [List.getElem?_map, List.getElem?_map]
  by_cases hi : i < fs.length
  · rw [List.getElem?_range hi, List.getElem?_eq_getElem hi]
    show some (if fs[i] = x then (1 : Int) else 0) = some (if i = j then 1 else 0)
    have hjl : j < fs.length := (List.getElem?_eq_some_iff.mp hj).1
    have ex : fs[j] = x := by
      rw [List.getElem?_eq_getElem hjl] at hj
      exact Option.some.inj hj
    by_cases c : i = j
    · subst c
      rw [if_pos ex, if_pos rfl]
    · rw [if_neg c, if_neg fun z => ?_]
      have pw := List.pairwise_iff_getElem.mp hn
      rcases Nat.lt_or_gt_of_ne c with h | h
      · exact pw i j hi hjl h (z.trans ex.symm)
      · exact pw j i hjl hi h (ex.trans z.symm)
  · rw [List.getElem?_eq_none (by omega), List.getElem?_eq_none (by rw [List.length_range]; omega)]
    rfl
theorem first_at {fs : List Str} (hn : fs.Nodup) {x : Str} {j : Nat} (hj : fs[j]? = some x) : ∀ m, m < j → fs[m]? ≠ some x := by
  intro m hm e
  have hjl := (List.getElem?_eq_some_iff.mp hj)
  have hml := (List.getElem?_eq_some_iff.mp e)
  obtain ⟨a, b⟩ := hjl
  obtain ⟨a', b'⟩ := hml
  exact List.pairwise_iff_getElem.mp hn m j a' a hm (b'.trans b.symm)
def spNamesR : Sp := fun vs H Q _ => ∃ (m : Addr) (c n : Nat), vs = [.ref m, .int (n : Int)] ∧ MAt H m c ∧ c ≤ 700000 ∧ n ≤ 5 ∧
  ∀ H' : Hp, Kp m H H' → MAt H' m (c + 2) → Q (.bl true) H'
theorem rd_xf {a : Addr} {cls : Value} {d : Option Addr} {C : Addr} {f : Str} {te : TE} {σ : L2.St} {H : Hp} {Q : VK} (h : te σ H fun x H1 => x = .ref a ∧ cls = .ref C ∧ ∃ (dd : Addr) (fs : List (Str × V)) (v : V), d = some dd ∧ H1 dd = some (.xd fs) ∧ fs.lookup f = some v ∧ Q v H1) : tXf a cls d C f te σ H Q := h
section
variable {P : Program} {w : World} {K : PySem.W.Frag} {mg : Str → Option Value} {base : Heap}
theorem sc_law_names_right : FnScope ["m", "count", "every", "first", "names", "name", "told", "error", "other"] ["m", "count"] (defScope s_law_names_right) := ⟨rfl, rfl, rfl, by decide +kernel, rfl, by decide +kernel, by decide +kernel⟩
theorem ok_law_names_right (T : Txt P K mg) {k : Nat} : FnG P w K mg base CX0 (k + 6) T.f_law_names_right T.d_law_names_right ["m", "count"] spNamesR := by
  refine okG T.F_law_names_right sc_law_names_right (fun vs H Q E h => ?_) (fun cdv A outer s H vs Q E hr gd h => ?_)
  · obtain ⟨m, c, n, rfl, _⟩ := h
    rfl
  obtain ⟨m, c, n, rfl, hm, hc, hn, q⟩ := h
  refine ⟨_, (pss_cons (ps_set (i := 2) sc_law_names_right.nd rfl (Or.inl rfl) (pe_lst (pa_cons pe_str (pa_cons pe_str (pa_cons pe_str (pa_cons pe_str (pa_cons pe_str pa_nil)))))))
    (pss_cons (ps_set (i := 3) sc_law_names_right.nd rfl (Or.inl rfl) (pe_call (ok_law_draw T) hr (by rfl) T.g_law_draw T.F_law_draw.kp T.b_law_draw .nil pass0 (pa_cons (pv 0) (pa_cons pe_int pa_nil))))
    (pss_cons (ps_set (i := 4) sc_law_names_right.nd rfl (Or.inl rfl) (pe_callTy (tuple_frzK K) (by rfl) T.z_tuple (by decide +kernel) (pa_cons (pe_slice (sl_listK K) (pe_op op_cat (pe_slice (sl_listK K) (pv 2) (po_some (pv 3)) po_none) (pe_slice (sl_listK K) (pv 2) po_none (po_some (pv 3)))) po_none (po_some (pv 1))) pa_nil)))
    (pss_cons (ps_set (i := 5) sc_law_names_right.nd rfl (Or.inr rfl) (pe_call (ok_law_of T) hr (by rfl) T.g_law_of T.F_law_of.kp T.b_law_of .nil pass0 (pa_cons (pv 0) (pa_cons (pv 2) pa_nil))))
    (pss_cons (ps_try_as (i := 7) rfl rfl sc_law_names_right.nd rfl rfl ⟨by rfl, by decide, .inl T.m_UnknownName⟩ takes0 (fun W pn xe tk po => (pss_one (ps_set (i := 6) sc_law_names_right.nd rfl (Or.inl rfl) (pe_tup (pa_cons pe_str (pa_cons (pe_callS (ok_name_form T) hr (by rfl) T.g_name_form T.F_name_form.kp T.b_name_form (fun σ => passAt tk σ) (pa_cons (pv 4) (pa_cons (pv 5) pa_nil))) pa_nil)))))) (fun a oe cls d pn hz hf => (pss_one (ps_set (i := 6) sc_law_names_right.nd rfl (Or.inl rfl) (pe_tup (pa_cons pe_str (pa_cons (pe_xf T.x_UnknownName T.n_UnknownName_name hz hf (pv 7)) pa_nil)))))))
    (pss_cons (ps_if (pt_cmpR (notIn_seqK K) (pv 5) (pv 4) (by rfl)) (pss_one (ps_ret (pe_cmpR (eqDK K hr.units) (pv 6) (pe_tup (pa_cons pe_str (pa_cons (pv 5) pa_nil))) (by rfl)))) pss_nil)
    (pss_one (ps_ret (pe_cmpR op_eq (pe_callB (reprK K gd hr) (by rfl) T.z_repr (by decide +kernel) (pa_cons (pv 6) pa_nil)) (pe_callB (reprK K gd hr) (by rfl) T.z_repr (by decide +kernel) (pa_cons (pe_tup (pa_cons pe_str (pa_cons (pe_callTy (tuple_ofK K) (by rfl) T.z_tuple (by decide +kernel) (pa_cons (pe_op op_cat (pe_lst (pa_cons pe_int pa_nil)) (pe_lc (own := [("other", 8)]) (g := (gName 8)) rfl sc_law_names_right.nd (pi_tup (pv 4)) (blkOk_by (N := ["m", "count", "every", "first", "names", "name", "told", "error", "other"]) (sc := defScope s_law_names_right) (by decide +kernel)) (fun _ _ _ _ _ => (pg_name (i := 8) sc_law_names_right.nd rfl (Or.inl rfl))) (fun _ _ _ _ _ => pts_nil) (fun _ _ _ _ _ => (pe_ifExp (pt_cmpR op_eq (pv 8) (pv 5) (by rfl)) pe_int pe_int)))) pa_nil)) pa_nil))) pa_nil)) (by rfl)))))))))), ?_⟩
  try dsimp only [L2.cxOf, L2.Cx.nox]
  walk_at "rd"
  refine ⟨by show 5 ≤ sizeLine; decide, fun es ne => ?_⟩
  have s1 := Same.new ne (.lst (ev5.map V.str))
  have g1 : (upd H es (.lst (ev5.map V.str))) es = some (.lst (ev5.map V.str)) := upd_same
  have m1 := hm.same s1
  change tSeq _ _ _ _ (upd H es (.lst (ev5.map V.str)))
  generalize upd H es (.lst (ev5.map V.str)) = H1 at s1 g1 m1
  walk_at "rd"
  refine ⟨m, c, 5, rfl, m1, by omega, by decide, by decide, fun f H2 f0 f1 k2 m2 => ?_⟩
  obtain ⟨fn, rfl⟩ : ∃ fn : Nat, f = (fn : Int) := ⟨f.toNat, by omega⟩
  obtain ⟨nod, mem⟩ := ev5_rot fn (by omega)
  have g2 := m1.lst k2 g1
  walk_at "rd"
  refine rd_slL (sqL g2) fun p3 n3 => ?_
  rw [cut_lo']
  have s3 := Same.new n3 (.lst ((ev5.drop fn).map V.str))
  have g3 : (upd H2 p3 (.lst ((ev5.drop fn).map V.str))) p3 = some (.lst ((ev5.drop fn).map V.str)) := upd_same
  generalize upd H2 p3 (.lst ((ev5.drop fn).map V.str)) = H3 at s3 g3
  walk_at "rd"
  refine rd_slL (sqL (s3 _ _ g2)) fun p4 n4 => ?_
  rw [cut_hi']
  have s4 := Same.new n4 (.lst ((ev5.take fn).map V.str))
  refine rd_cat (s4 _ _ g3) upd_same (by rw [List.length_map, List.length_map, List.length_drop, List.length_take]; show (5 - fn) + min fn 5 ≤ 1000000; omega) fun p5 n5 => ?_
  rw [← List.map_append]
  have s5 := s4.trans (Same.new n5 (.lst ((ev5.drop fn ++ ev5.take fn).map V.str)))
  walk_at "rd"
  refine rd_slL (sqL upd_same) fun p6 n6 => ?_
  rw [cut_hi']
  walk_at "rd"
  refine ⟨p6, _, rfl, sqL upd_same, fun pn ob npn hob => ?_⟩
  have lnm : ((ev5.drop fn ++ ev5.take fn).take n).length ≤ 5 := by
    rw [List.length_take, List.length_append, List.length_drop, List.length_take]
    have : ev5.length = 5 := rfl
    omega
  have nodn : ((ev5.drop fn ++ ev5.take fn).take n).Nodup := nod.sublist (List.take_sublist _ _)
  have s7 := ((s3.trans s5).trans (Same.new n6 (.lst (((ev5.drop fn ++ ev5.take fn).take n).map V.str)))).trans (Same.new npn (.frz ob (.tup (((ev5.drop fn ++ ev5.take fn).take n).map V.str))))
  have g7 := s7 _ _ g2
  have h7 : (upd (upd (upd (upd H3 p4 (.lst ((ev5.take fn).map V.str))) p5 (.lst ((ev5.drop fn ++ ev5.take fn).map V.str))) p6 (.lst (((ev5.drop fn ++ ev5.take fn).take n).map V.str))) pn (.frz ob (.tup (((ev5.drop fn ++ ev5.take fn).take n).map V.str)))) pn = some (.frz ob (.tup (((ev5.drop fn ++ ev5.take fn).take n).map V.str))) := upd_same
  have m7 := m2.same s7
  generalize upd (upd (upd (upd H3 p4 (.lst ((ev5.take fn).map V.str))) p5 (.lst ((ev5.drop fn ++ ev5.take fn).map V.str))) p6 (.lst (((ev5.drop fn ++ ev5.take fn).take n).map V.str))) pn (.frz ob (.tup (((ev5.drop fn ++ ev5.take fn).take n).map V.str))) = H7 at s7 g7 h7 m7
  generalize (ev5.drop fn ++ ev5.take fn).take n = names at lnm nodn h7
  have k7 : Kp m H H7 := ((Kp.of s1).trans k2).trans (Kp.of s7)
  walk_at "rd"
  refine ⟨m, es, _, _, rfl, m7, by omega, g7, (fun z => by unfold ev5 at z; cases z), by show 5 ≤ 1000; decide, fun v H8 hv k8 m8 => ?_⟩
  obtain ⟨x, hx5, rfl⟩ := List.mem_map.mp hv
  obtain ⟨okx, szx⟩ := ev5_ok x hx5
  obtain ⟨kvs, d7⟩ := m7.dict
  have h8 := k8.get h7 d7 (fun z => nomatch z)
  have t8 : SqT K H8 pn (names.map V.str) := .inl (.inr ⟨ob, h8⟩)
  walk_at "rd"
  refine rd_callS ?_
  walk_at "rd"
  by_cases hx : x ∈ names
  · obtain ⟨j, hjl, hj'⟩ := List.getElem_of_mem hx
    have hj : names[j]? = some x := by rw [List.getElem?_eq_getElem hjl, hj']
    refine ⟨pn, names, x, ob, rfl, h8, hob, by omega, .inl ⟨j, hj, first_at nodn hj, fun p H9 s9 h9 => ?_⟩⟩
    have ind : 0 :: indS names x = unitL j names.length := by
      rw [indS_eq nodn hj, unit_ind hjl]
    rw [← ind] at h9
    have lin : (indS names x).length = names.length := by
      unfold indS
      rw [List.length_map]
    have mid : midD (.tuple [.str "told", .tuple ((0 :: indS names x).map PyData.int)]) = true := by
      rw [midD, midDs, midDs, midDs, midD, midD, mid_intL]
      · decide +kernel
      · intro y hy
        rcases List.mem_cons.mp hy with rfl | hy
        · decide
        · obtain ⟨o, _, rfl⟩ := List.mem_map.mp hy
          split <;> decide
    have bk : (PyData.tuple [.str "told", .tuple ((0 :: indS names x).map PyData.int)]).bulk ≤ 10000 := by
      rw [PyData.bulk, PyData.bulkAll, PyData.bulkAll, PyData.bulkAll, PyData.bulk, PyData.bulk, bulk_intL, List.length_cons, lin]
      show 4 + 1 + (names.length + 1 + 1 + 0) ≤ 10000
      omega
    have dp : (PyData.tuple [.str "told", .tuple ((0 :: indS names x).map PyData.int)]).depth ≤ 150 := by
      rw [PyData.depth, PyData.depthAll, PyData.depthAll, PyData.depthAll, PyData.depth, PyData.depth, depth_intL]
      decide
    walk_at "rd"
    refine ⟨by show 2 ≤ sizeLine; decide, fun t10 n10 => ?_⟩
    have s10 := s9.trans (Same.new n10 (.tup [V.str (Str.ofString "told"), V.ref p]))
    have h10 : (upd H9 t10 (.tup [V.str (Str.ofString "told"), V.ref p])) t10 = some (.tup [V.str (Str.ofString "told"), V.ref p]) := upd_same
    have hp10 := (Same.new n10 (.tup [V.str (Str.ofString "told"), V.ref p])).seqT h9
    generalize upd H9 t10 (.tup [V.str (Str.ofString "told"), V.ref p]) = H10 at s10 h10 hp10
    have t10' := s10.seqT t8
    walk_at "rd"
    refine rd_notIn (.inr t10') rfl (Gd.flat_strs names) (inV_strs x names) ?_
    rw [decide_eq_true hx]
    walk_at "rd"
    refine iteF ?_
    walk_at "rd"
    refine rd_reprM (.tup (sqT h10) (.cons (.str _) (.cons (.tup hp10 (dp_ints K _ _)) .nil))) mid bk dp ?_
    walk_at "rd"
    refine ⟨by show 1 ≤ sizeLine; decide, fun p11 n11 => ?_⟩
    have s11 := s10.trans (Same.new n11 (.lst [V.int 0]))
    have h11 : (upd H10 p11 (.lst [V.int 0])) p11 = some (.lst [V.int 0]) := upd_same
    generalize upd H10 p11 (.lst [V.int 0]) = H11 at s11 h11
    have t11 := s11.seqT t8
    walk_at "rd"
    refine rd_atT t11 fun D12 n12 => lc_src walk_tup (fun i => (names.map V.str).getD i .non) ?_ (fun _ => true) (fun i => V.int ((indS names x).getD i 0)) (by rw [List.length_map]; omega) n12 (fun H2 z => z.seqT t11) (fun x => rfl) (fun i H2 R hi z r => rd_yes r) ?_ ?_
    · rintro i Ha y Hb hi ⟨rfl, e⟩
      rw [List.getD_eq_getElem?_getD, e]
      exact ⟨rfl, rfl⟩
    · intro i H2 R hi hf z r
      rw [List.length_map] at hi
      have e1 : (names.map V.str).getD i .non = V.str names[i] := by
        rw [List.getD_eq_getElem?_getD, List.getElem?_map, List.getElem?_eq_getElem hi]
        rfl
      have e2 : (indS names x).getD i 0 = if names[i] = x then 1 else 0 := by
        unfold indS
        rw [List.getD_eq_getElem?_getD, List.getElem?_map, List.getElem?_eq_getElem hi]
        rfl
      rw [e2] at r
      rw [e1]
      walk_at "rd"
      refine rd_two (fun c => ?_) (fun c => ?_)
      · rw [if_pos (V.str.inj c)] at r
        walk_at "rd"
        exact r H2 (Same.refl _)
      · rw [if_neg fun z => c (congrArg V.str z)] at r
        walk_at "rd"
        exact r H2 (Same.refl _)
    intro H12 s12 g12
    rw [given_all _ (indS names x) (by rw [lin, List.length_map])] at g12
    refine rd_cat (s12 _ _ h11) g12 (by rw [List.length_map, lin]; show 1 + names.length ≤ 1000000; omega) fun p13 n13 => ?_
    walk_at "rd"
    refine ⟨p13, _, rfl, .inl ⟨sqL upd_same, fun t14 n14 => ?_⟩⟩
    have s14 := ((s11.trans s12).trans (Same.new n13 (.lst ([V.int 0] ++ (indS names x).map V.int)))).trans (Same.new n14 (.tup ([V.int 0] ++ (indS names x).map V.int)))
    have h14 : SqT K (upd (upd H12 p13 (.lst ([V.int 0] ++ (indS names x).map V.int))) t14 (.tup ([V.int 0] ++ (indS names x).map V.int))) t14 ((0 :: indS names x).map V.int) := sqT upd_same
    generalize upd (upd H12 p13 (.lst ([V.int 0] ++ (indS names x).map V.int))) t14 (.tup ([V.int 0] ++ (indS names x).map V.int)) = H14 at s14 h14
    walk_at "rd"
    refine ⟨by show 2 ≤ sizeLine; decide, fun t15 n15 => ?_⟩
    have s15 := Same.new n15 (.tup [V.str (Str.ofString "told"), V.ref t14])
    walk_at "rd"
    refine rd_reprM (.tup (sqT upd_same) (.cons (.str _) (.cons (.tup (s15.seqT h14) (dp_ints K _ _)) .nil))) mid bk dp ?_
    walk_at "rd"
    rw [decide_eq_true rfl]
    have zz := s14.trans s15
    exact q _ ((k7.trans k8).trans (Kp.of zz)) (m8.same zz)
  · refine ⟨pn, names, x, ob, rfl, h8, hob, by omega, .inr ⟨hx, fun d H9 s9 h9 => ?_⟩⟩
    refine ⟨true, T.e_UnknownName_UnknownName, fun _ e9 n9 => ?_, fun z => nomatch z⟩
    walk_at "rd"
    refine rd_xf ?_
    walk_at "rd"
    refine ⟨rfl, rfl, d, _, _, rfl, h9, rfl, ?_⟩
    walk_at "rd"
    refine ⟨by show 2 ≤ sizeLine; decide, fun t10 n10 => ?_⟩
    have s10 := s9.trans (Same.new n10 (.tup [V.str (Str.ofString "unknown"), V.str x]))
    have h10 : (upd H9 t10 (.tup [V.str (Str.ofString "unknown"), V.str x])) t10 = some (.tup [V.str (Str.ofString "unknown"), V.str x]) := upd_same
    generalize upd H9 t10 (.tup [V.str (Str.ofString "unknown"), V.str x]) = H10 at s10 h10
    have t10' := s10.seqT t8
    walk_at "rd"
    refine rd_notIn (.inr t10') rfl (Gd.flat_strs names) (inV_strs x names) ?_
    rw [decide_eq_false hx]
    walk_at "rd"
    refine iteT ?_
    walk_at "rd"
    refine ⟨by show 2 ≤ sizeLine; decide, fun t11 n11 => ?_⟩
    have s11 := Same.new n11 (.tup [V.str (Str.ofString "unknown"), V.str x])
    have sm : smallD (.tuple ([Str.ofString "unknown", x].map PyData.str)) = true := by
      rw [smallD]
      refine small_strs _ fun z hz => ?_
      simp only [List.mem_cons, List.not_mem_nil, or_false] at hz
      rcases hz with rfl | rfl
      · decide +kernel
      · exact okx
    have dp : (PyData.tuple ([Str.ofString "unknown", x].map PyData.str)).depth ≤ 64 := by rw [PyData.depth, depth_strs]; decide
    refine rd_eqD (.tup (sqT (s11 _ _ h10)) (dp_strs K _ [Str.ofString "unknown", x])) (.tup (sqT upd_same) (dp_strs K _ [Str.ofString "unknown", x])) sm sm dp dp ?_
    rw [SeqAt.eqv_refl _ (small_lay _ sm)]
    have zz := s10.trans s11
    exact q _ ((k7.trans k8).trans (Kp.of zz)) (m8.same zz)
end

def spLaw (K : PySem.W.Frag) : Sp := fun vs H Q _ => ∃ (a : Addr) (ns : List Int), vs = [.ref a] ∧ SqL K H a (ns.map V.int) ∧ ns.length ≤ 63 ∧ (∀ z ∈ ns, Builtin.Int.intBits z ≤ 1048576) ∧ ∀ H' : Hp, Q (.bl true) H'
theorem same_kp {H H1 H2 : Hp} {m : Addr} (s : Same H H1) (h : H m = none) (k : Kp m H1 H2) : Same H H2 := fun b o e => k b o (fun z => by rw [z, h] at e; cases e) (s b o e)
section
variable {P : Program} {w : World} {K : PySem.W.Frag} {mg : Str → Option Value} {base : Heap}
theorem sc_law : FnScope ["script", "k", "m", "count"] ["script"] (defScope s_law) := ⟨rfl, rfl, rfl, by decide +kernel, rfl, by decide +kernel, by decide +kernel⟩
theorem ok_law (T : Txt P K mg) {k : Nat} {f : Addr} {fd : FuncData} (F : Fun K "law" "law" s_law f fd) : FnG P w K mg base CX0 (k + 10) f fd ["script"] (spLaw K) := by
  refine okG F sc_law (fun vs H Q E h => ?_) (fun cdv A outer s H vs Q E hr gd h => ?_)
  · obtain ⟨a, ns, rfl, _⟩ := h
    rfl
  obtain ⟨a, ns, rfl, ha, hl, hb, q⟩ := h
  refine ⟨_, (pss_cons (ps_for PassesOwn.never rfl (pi_range1 rfl T.z_range (pa_cons (pe_op op_add pe_int (pe_callB (call_min2 rfl) (by rfl) T.z_min (by decide +kernel) (pa_cons (pe_callB (len_seqK K) (by rfl) T.z_len (by decide +kernel) (pa_cons (pv 0) pa_nil)) (pa_cons pe_int pa_nil)))) pa_nil)) (pg_name (i := 1) sc_law.nd rfl (Or.inl rfl)) (pss_cons (ps_set (i := 2) sc_law.nd rfl (Or.inl rfl) (pe_call (ok_law_begun T) hr (by rfl) T.g_law_begun T.F_law_begun.kp T.b_law_begun .nil pass0 (pa_cons (pv 0) (pa_cons (pv 1) pa_nil))))
    (pss_cons (ps_set (i := 3) sc_law.nd rfl (Or.inl rfl) (pe_call (ok_law_draw T) hr (by rfl) T.g_law_draw T.F_law_draw.kp T.b_law_draw .nil pass0 (pa_cons (pv 2) (pa_cons pe_int pa_nil))))
    (pss_cons (ps_if (PW.pt (pw_or (pt_not (pt_val (pe_callG (ok_law_at_right T) hr gd (by rfl) T.g_law_at_right T.F_law_at_right.kp T.b_law_at_right .nil pass0 (pa_cons (pv 2) (pa_cons (pv 3) pa_nil))))) (pw_or (pt_not (pt_val (pe_callG (ok_law_sums_right T) hr gd (by rfl) T.g_law_sums_right T.F_law_sums_right.kp T.b_law_sums_right .nil pass0 (pa_cons (pv 2) (pa_cons (pv 3) pa_nil))))) (pw_or1 (pt_not (pt_val (pe_callG (ok_law_faces_right T) hr gd (by rfl) T.g_law_faces_right T.F_law_faces_right.kp T.b_law_faces_right .nil pass0 (pa_cons (pv 3) pa_nil)))))))) (pss_one (ps_ret pe_bl)) pss_nil)
    (pss_one (ps_if (PW.pt (pw_or (pt_not (pt_val (pe_callG (ok_law_names_right T) hr gd (by rfl) T.g_law_names_right T.F_law_names_right.kp T.b_law_names_right .nil pass0 (pa_cons (pv 2) (pa_cons (pv 3) pa_nil))))) (pw_or1 (pt_not (pt_val (pe_callG (ok_law_at_right T) hr gd (by rfl) T.g_law_at_right T.F_law_at_right.kp T.b_law_at_right .nil pass0 (pa_cons (pv 2) (pa_cons (pe_call (ok_law_draw T) hr (by rfl) T.g_law_draw T.F_law_draw.kp T.b_law_draw .nil pass0 (pa_cons (pv 2) (pa_cons pe_int pa_nil))) pa_nil)))))))) (pss_one (ps_ret pe_bl)) pss_nil))))))
    (pss_one (ps_ret pe_bl))), ?_⟩
  try dsimp only [L2.cxOf, L2.Cx.nox]
  have keepL : ∀ H', Same H H' → SqL K H' a (ns.map V.int) := fun H' s => by
    rcases ha with (ha | ⟨o, ha⟩) | ha
    · exact .inl (.inl (s _ _ ha))
    · exact .inl (.inr ⟨o, s _ _ ha⟩)
    · exact .inr ha
  walk_at "rd"
  refine rd_len (.inl ha) ?_
  walk_at "rd"
  rw [List.length_map]
  obtain ⟨n, hn, hn2⟩ : ∃ n : Nat, 1 + (if (1 : Int) < (ns.length : Int) then 1 else (ns.length : Int)) = (n : Int) ∧ n ≤ 2 := by
    by_cases c : (1 : Int) < (ns.length : Int)
    · exact ⟨2, by rw [if_pos c]; rfl, Nat.le_refl _⟩
    · exact ⟨1 + ns.length, by rw [if_neg c]; omega, by omega⟩
  rw [hn]
  refine rd_atR (by omega) (by omega) (forR (n := (n : Int).toNat) (lo := 0) (fun i σ H' => ∃ y1 y2 y3 : Option V, σ = [some (.ref a), y1, y2, y3] ∧ Same H H') ⟨_, _, _, rfl, Same.refl _⟩ ?_ ?_)
  · rintro i σ H1 hi ⟨y1, y2, y3, rfl, s1⟩
    walk_at "rd"
    refine ⟨a, ns, _, rfl, keepL _ s1, hl, by omega, by omega, fun m H2 s2 nm m2 => ?_⟩
    have nm0 : H m = none := by
      cases z : H m with
      | none => rfl
      | some o =>
        rw [s1 _ _ z] at nm
        cases nm
    have s12 := s1.trans s2
    walk_at "rd"
    refine ⟨m, 0, 5, rfl, m2, by omega, by decide, by decide, fun r H3 r0 r1 k3 m3 => ?_⟩
    obtain ⟨ct, rfl⟩ : ∃ ct : Nat, r = (ct : Int) := ⟨r.toNat, by omega⟩
    walk_at "rd"
    refine ⟨m, _, ct, rfl, m3, by omega, by omega, fun H4 k4 m4 => ?_⟩
    walk_at "rd"
    refine iteF ?_
    walk_at "rd"
    refine ⟨m, _, ct, rfl, m4, by omega, by omega, fun H5 k5 m5 => ?_⟩
    walk_at "rd"
    refine iteF ?_
    walk_at "rd"
    refine ⟨ct, rfl, by omega, fun H6 s6 => ?_⟩
    walk_at "rd"
    refine iteF ?_
    walk_at "rd"
    refine ⟨m, _, ct, rfl, m5.same s6, by omega, by omega, fun H7 k7 m7 => ?_⟩
    walk_at "rd"
    refine iteF ?_
    walk_at "rd"
    refine ⟨m, _, 4, rfl, m7, by omega, by decide, by decide, fun r8 H8 r80 r81 k8 m8 => ?_⟩
    obtain ⟨c8, rfl⟩ : ∃ ct : Nat, r8 = (ct : Int) := ⟨r8.toNat, by omega⟩
    walk_at "rd"
    refine ⟨m, _, c8, rfl, m8, by omega, by omega, fun H9 k9 m9 => ?_⟩
    walk_at "rd"
    refine iteF ?_
    walk_at "rd"
    exact ⟨_, _, _, rfl, same_kp s12 nm0 (((((k3.trans k4).trans k5).trans (Kp.of s6)).trans k7).trans (k8.trans k9))⟩
  · rintro σ H1 ⟨y1, y2, y3, rfl, s1⟩
    walk_at "rd"
    exact q H1
end

theorem exm_of {K : PySem.W.Frag} {cls : Value} {D : Addr} {b : Bool} (hc : (PySem.W.clsIn K D).isSome = true) (ht : PySem.W.typeIn K (.ref D) = some (.type "type")) (hb : PySem.W.subIn K (.ref D) (.type "BaseException") = some true)
    (e : PySem.W.subIn K cls (.ref D) = some b) : PySem.W.exmOne K cls (.ref D) = some b := by
  unfold PySem.W.exmOne
  rw [hb, if_pos (by decide)]
  unfold PySem.W.kitCls
  dsimp only
  rw [hc, ht, if_pos (by decide)]
  exact e
theorem clsIn_exc {K : PySem.W.Frag} {nm q : Str} {C N : Addr} {bs bm : List Value} {hdct : Bool} {sn : List Str} {sub : List Value} {ab : Bool} {col : Option Bool} {dd : Option Addr} {k0 k1 k2 k3 k5 : Option Value} {newId : String}
    (h : K.lookup C = some (excClassObj nm q C N bs bm hdct sn sub ab col dd k0 k1 k2 k3 k5 newId)) : (PySem.W.clsIn K C).isSome = true := by
  unfold PySem.W.clsIn
  rw [h]
  rfl

theorem all_mk {l : PySem.W.OpenLaw} {w : World} {K : PySem.W.Frag} {h : Heap} {mg : Str → Option Value} {fa f1 f2 f3 f4 f5 f6 f7 f8 f9 f10 f11 f12 f13 f14 f15 f16 f17 f18 f19 f20 f21 f22 : Addr} (X : K.In h) (G : h.Ns mainGlobals mg) (hfa : mg "law" = some (.ref fa))
    {od1 an1 od2 an2 od3 an3 od4 an4 od5 an5 od6 an6 od7 an7 od8 an8 od9 an9 od10 an10 od11 an11 od12 an12 od13 an13 od14 an14 od15 an15 od16 an16 od17 an17 od18 an18 od19 an19 od20 an20 od21 an21 od22 an22 : Option Addr} {sl1 sl2 sl3 sl4 sl5 sl6 sl7 sl8 sl9 sl10 sl11 sl12 sl13 sl14 sl15 sl16 sl17 sl18 sl19 sl20 sl21 sl22 : Array (Option Value)}
    {oc1 kV1 dc1 pm1 cd1 ct1 oc2 kV2 dc2 pm2 cd2 ct2 oc3 kV3 dc3 pm3 cd3 ct3 oc4 kV4 dc4 pm4 cd4 ct4 oc5 kV5 dc5 pm5 cd5 ct5 oc6 kV6 dc6 pm6 cd6 ct6 oc7 kV7 dc7 pm7 cd7 ct7 oc8 kV8 dc8 pm8 cd8 ct8 oc9 kV9 dc9 pm9 cd9 ct9 oc10 kV10 dc10 pm10 cd10 ct10 oc11 kV11 dc11 pm11 cd11 ct11 oc12 kV12 dc12 pm12 cd12 ct12 oc13 kV13 dc13 pm13 cd13 ct13 oc14 kV14 dc14 pm14 cd14 ct14 oc15 kV15 dc15 pm15 cd15 ct15 oc16 kV16 dc16 pm16 cd16 ct16 oc17 kV17 dc17 pm17 cd17 ct17 oc18 kV18 dc18 pm18 cd18 ct18 oc19 kV19 dc19 pm19 cd19 ct19 oc20 kV20 dc20 pm20 cd20 ct20 oc21 kV21 dc21 pm21 cd21 ct21 oc22 kV22 dc22 pm22 cd22 ct22 : Value}
    (a1 : PySem.W.nsIn K mainGlobals "lowest_terms" = some (some (.ref f1)))
    (l1 : K.lookup f1 = some ⟨oc1, od1, .func (PySem.W.fnOf "lowest_terms" "lowest_terms" (defArgs s_lowest_terms) (defBody s_lowest_terms) (defScope s_lowest_terms) .none kV1 dc1 pm1 an1 cd1 ct1), sl1⟩)
    (c1 : PySem.W.codeIn K cd1 "lowest_terms" = true) (k1 : PySem.W.keepIn K (.ref f1) = true)
    (a2 : PySem.W.nsIn K mainGlobals "denominator_of" = some (some (.ref f2)))
    (l2 : K.lookup f2 = some ⟨oc2, od2, .func (PySem.W.fnOf "denominator_of" "denominator_of" (defArgs s_denominator_of) (defBody s_denominator_of) (defScope s_denominator_of) .none kV2 dc2 pm2 an2 cd2 ct2), sl2⟩)
    (c2 : PySem.W.codeIn K cd2 "denominator_of" = true) (k2 : PySem.W.keepIn K (.ref f2) = true)
    (a3 : PySem.W.nsIn K mainGlobals "form_at" = some (some (.ref f3)))
    (l3 : K.lookup f3 = some ⟨oc3, od3, .func (PySem.W.fnOf "form_at" "form_at" (defArgs s_form_at) (defBody s_form_at) (defScope s_form_at) .none kV3 dc3 pm3 an3 cd3 ct3), sl3⟩)
    (c3 : PySem.W.codeIn K cd3 "form_at" = true) (k3 : PySem.W.keepIn K (.ref f3) = true)
    (a4 : PySem.W.nsIn K mainGlobals "unit" = some (some (.ref f4)))
    (l4 : K.lookup f4 = some ⟨oc4, od4, .func (PySem.W.fnOf "unit" "unit" (defArgs s_unit) (defBody s_unit) (defScope s_unit) .none kV4 dc4 pm4 an4 cd4 ct4), sl4⟩)
    (c4 : PySem.W.codeIn K cd4 "unit" = true) (k4 : PySem.W.keepIn K (.ref f4) = true)
    (a5 : PySem.W.nsIn K mainGlobals "opposite" = some (some (.ref f5)))
    (l5 : K.lookup f5 = some ⟨oc5, od5, .func (PySem.W.fnOf "opposite" "opposite" (defArgs s_opposite) (defBody s_opposite) (defScope s_opposite) .none kV5 dc5 pm5 an5 cd5 ct5), sl5⟩)
    (c5 : PySem.W.codeIn K cd5 "opposite" = true) (k5 : PySem.W.keepIn K (.ref f5) = true)
    (a6 : PySem.W.nsIn K mainGlobals "one_less" = some (some (.ref f6)))
    (l6 : K.lookup f6 = some ⟨oc6, od6, .func (PySem.W.fnOf "one_less" "one_less" (defArgs s_one_less) (defBody s_one_less) (defScope s_one_less) .none kV6 dc6 pm6 an6 cd6 ct6), sl6⟩)
    (c6 : PySem.W.codeIn K cd6 "one_less" = true) (k6 : PySem.W.keepIn K (.ref f6) = true)
    (a7 : PySem.W.nsIn K mainGlobals "faces" = some (some (.ref f7)))
    (l7 : K.lookup f7 = some ⟨oc7, od7, .func (PySem.W.fnOf "faces" "faces" (defArgs s_faces) (defBody s_faces) (defScope s_faces) .none kV7 dc7 pm7 an7 cd7 ct7), sl7⟩)
    (c7 : PySem.W.codeIn K cd7 "faces" = true) (k7 : PySem.W.keepIn K (.ref f7) = true)
    (a8 : PySem.W.nsIn K mainGlobals "summed" = some (some (.ref f8)))
    (l8 : K.lookup f8 = some ⟨oc8, od8, .func (PySem.W.fnOf "summed" "summed" (defArgs s_summed) (defBody s_summed) (defScope s_summed) .none kV8 dc8 pm8 an8 cd8 ct8), sl8⟩)
    (c8 : PySem.W.codeIn K cd8 "summed" = true) (k8 : PySem.W.keepIn K (.ref f8) = true)
    (a9 : PySem.W.nsIn K mainGlobals "name_form" = some (some (.ref f9)))
    (l9 : K.lookup f9 = some ⟨oc9, od9, .func (PySem.W.fnOf "name_form" "name_form" (defArgs s_name_form) (defBody s_name_form) (defScope s_name_form) .none kV9 dc9 pm9 an9 cd9 ct9), sl9⟩)
    (c9 : PySem.W.codeIn K cd9 "name_form" = true) (k9 : PySem.W.keepIn K (.ref f9) = true)
    (a10 : PySem.W.nsIn K mainGlobals "not_form" = some (some (.ref f10)))
    (l10 : K.lookup f10 = some ⟨oc10, od10, .func (PySem.W.fnOf "not_form" "not_form" (defArgs s_not_form) (defBody s_not_form) (defScope s_not_form) .none kV10 dc10 pm10 an10 cd10 ct10), sl10⟩)
    (c10 : PySem.W.codeIn K cd10 "not_form" = true) (k10 : PySem.W.keepIn K (.ref f10) = true)
    (a11 : PySem.W.nsIn K mainGlobals "_law_begun" = some (some (.ref f11)))
    (l11 : K.lookup f11 = some ⟨oc11, od11, .func (PySem.W.fnOf "_law_begun" "_law_begun" (defArgs s_law_begun) (defBody s_law_begun) (defScope s_law_begun) .none kV11 dc11 pm11 an11 cd11 ct11), sl11⟩)
    (c11 : PySem.W.codeIn K cd11 "_law_begun" = true) (k11 : PySem.W.keepIn K (.ref f11) = true)
    (a12 : PySem.W.nsIn K mainGlobals "_law_draw" = some (some (.ref f12)))
    (l12 : K.lookup f12 = some ⟨oc12, od12, .func (PySem.W.fnOf "_law_draw" "_law_draw" (defArgs s_law_draw) (defBody s_law_draw) (defScope s_law_draw) .none kV12 dc12 pm12 an12 cd12 ct12), sl12⟩)
    (c12 : PySem.W.codeIn K cd12 "_law_draw" = true) (k12 : PySem.W.keepIn K (.ref f12) = true)
    (a13 : PySem.W.nsIn K mainGlobals "_law_of" = some (some (.ref f13)))
    (l13 : K.lookup f13 = some ⟨oc13, od13, .func (PySem.W.fnOf "_law_of" "_law_of" (defArgs s_law_of) (defBody s_law_of) (defScope s_law_of) .none kV13 dc13 pm13 an13 cd13 ct13), sl13⟩)
    (c13 : PySem.W.codeIn K cd13 "_law_of" = true) (k13 : PySem.W.keepIn K (.ref f13) = true)
    (a14 : PySem.W.nsIn K mainGlobals "_law_lowest" = some (some (.ref f14)))
    (l14 : K.lookup f14 = some ⟨oc14, od14, .func (PySem.W.fnOf "_law_lowest" "_law_lowest" (defArgs s_law_lowest) (defBody s_law_lowest) (defScope s_law_lowest) .none kV14 dc14 pm14 an14 cd14 ct14), sl14⟩)
    (c14 : PySem.W.codeIn K cd14 "_law_lowest" = true) (k14 : PySem.W.keepIn K (.ref f14) = true)
    (a15 : PySem.W.nsIn K mainGlobals "_law_some_value" = some (some (.ref f15)))
    (l15 : K.lookup f15 = some ⟨oc15, od15, .func (PySem.W.fnOf "_law_some_value" "_law_some_value" (defArgs s_law_some_value) (defBody s_law_some_value) (defScope s_law_some_value) .none kV15 dc15 pm15 an15 cd15 ct15), sl15⟩)
    (c15 : PySem.W.codeIn K cd15 "_law_some_value" = true) (k15 : PySem.W.keepIn K (.ref f15) = true)
    (a16 : PySem.W.nsIn K mainGlobals "_law_whole" = some (some (.ref f16)))
    (l16 : K.lookup f16 = some ⟨oc16, od16, .func (PySem.W.fnOf "_law_whole" "_law_whole" (defArgs s_law_whole) (defBody s_law_whole) (defScope s_law_whole) .none kV16 dc16 pm16 an16 cd16 ct16), sl16⟩)
    (c16 : PySem.W.codeIn K cd16 "_law_whole" = true) (k16 : PySem.W.keepIn K (.ref f16) = true)
    (a17 : PySem.W.nsIn K mainGlobals "_law_form" = some (some (.ref f17)))
    (l17 : K.lookup f17 = some ⟨oc17, od17, .func (PySem.W.fnOf "_law_form" "_law_form" (defArgs s_law_form) (defBody s_law_form) (defScope s_law_form) .none kV17 dc17 pm17 an17 cd17 ct17), sl17⟩)
    (c17 : PySem.W.codeIn K cd17 "_law_form" = true) (k17 : PySem.W.keepIn K (.ref f17) = true)
    (a18 : PySem.W.nsIn K mainGlobals "_law_at_right" = some (some (.ref f18)))
    (l18 : K.lookup f18 = some ⟨oc18, od18, .func (PySem.W.fnOf "_law_at_right" "_law_at_right" (defArgs s_law_at_right) (defBody s_law_at_right) (defScope s_law_at_right) .none kV18 dc18 pm18 an18 cd18 ct18), sl18⟩)
    (c18 : PySem.W.codeIn K cd18 "_law_at_right" = true) (k18 : PySem.W.keepIn K (.ref f18) = true)
    (a19 : PySem.W.nsIn K mainGlobals "_law_sums_right" = some (some (.ref f19)))
    (l19 : K.lookup f19 = some ⟨oc19, od19, .func (PySem.W.fnOf "_law_sums_right" "_law_sums_right" (defArgs s_law_sums_right) (defBody s_law_sums_right) (defScope s_law_sums_right) .none kV19 dc19 pm19 an19 cd19 ct19), sl19⟩)
    (c19 : PySem.W.codeIn K cd19 "_law_sums_right" = true) (k19 : PySem.W.keepIn K (.ref f19) = true)
    (a20 : PySem.W.nsIn K mainGlobals "_law_faces_right" = some (some (.ref f20)))
    (l20 : K.lookup f20 = some ⟨oc20, od20, .func (PySem.W.fnOf "_law_faces_right" "_law_faces_right" (defArgs s_law_faces_right) (defBody s_law_faces_right) (defScope s_law_faces_right) .none kV20 dc20 pm20 an20 cd20 ct20), sl20⟩)
    (c20 : PySem.W.codeIn K cd20 "_law_faces_right" = true) (k20 : PySem.W.keepIn K (.ref f20) = true)
    (a21 : PySem.W.nsIn K mainGlobals "_law_names_right" = some (some (.ref f21)))
    (l21 : K.lookup f21 = some ⟨oc21, od21, .func (PySem.W.fnOf "_law_names_right" "_law_names_right" (defArgs s_law_names_right) (defBody s_law_names_right) (defScope s_law_names_right) .none kV21 dc21 pm21 an21 cd21 ct21), sl21⟩)
    (c21 : PySem.W.codeIn K cd21 "_law_names_right" = true) (k21 : PySem.W.keepIn K (.ref f21) = true)
    (a22 : PySem.W.nsIn K mainGlobals "law" = some (some (.ref f22)))
    (l22 : K.lookup f22 = some ⟨oc22, od22, .func (PySem.W.fnOf "law" "law" (defArgs s_law) (defBody s_law) (defScope s_law) .none kV22 dc22 pm22 an22 cd22 ct22), sl22⟩)
    (c22 : PySem.W.codeIn K cd22 "law" = true) (k22 : PySem.W.keepIn K (.ref f22) = true)
    (m_gcd : PySem.W.nsIn K mainGlobals "gcd" = some (some (.builtin "math.gcd")))
    (m_lcm : PySem.W.nsIn K mainGlobals "lcm" = some (some (.builtin "math.lcm")))
    {C_UnknownName : Addr} (m_UnknownName : PySem.W.nsIn K mainGlobals "UnknownName" = some (some (.ref C_UnknownName)))
    {nm_UnknownName qn_UnknownName : Str} {N_UnknownName : Addr} {bs_UnknownName bm_UnknownName : List Value} {sn_UnknownName : List Str} {sub_UnknownName : List Value} {ab_UnknownName : Bool} {col_UnknownName : Option Bool} {dd_UnknownName : Option Addr} {k0_UnknownName k1_UnknownName k2_UnknownName k3_UnknownName k5_UnknownName : Option Value}
    (l_UnknownName : K.lookup C_UnknownName = some (excClassObj nm_UnknownName qn_UnknownName C_UnknownName N_UnknownName bs_UnknownName bm_UnknownName true sn_UnknownName sub_UnknownName ab_UnknownName col_UnknownName dd_UnknownName k0_UnknownName k1_UnknownName k2_UnknownName k3_UnknownName k5_UnknownName "ValueError.__new__"))
    (h_UnknownName : PySem.HandSPX.refsVE bm_UnknownName = true)
    (sa_UnknownName : PySem.W.findIn K (.ref C_UnknownName) "__setattr__" = some (some (.builtin "object.__setattr__")))
    (xc_UnknownName : PySem.W.subIn K (.ref C_UnknownName) (.type "BaseException") = some true) (ty_UnknownName : PySem.W.typeIn K (.ref C_UnknownName) = some (.type "type")) (kp_UnknownName : PySem.W.keepIn K (.ref C_UnknownName) = true)
    (ga_UnknownName : PySem.W.findIn K (.ref C_UnknownName) "__getattribute__" = some (some (.builtin "BaseException.__getattribute__"))) (gg_UnknownName : PySem.W.findIn K (.ref C_UnknownName) "__getattr__" = some none) (hd_UnknownName : PySem.W.hasDictIn K C_UnknownName = true)
    {f_UnknownName_init : Addr} (i_UnknownName : PySem.W.findIn K (.ref C_UnknownName) "__init__" = some (some (.ref f_UnknownName_init))) (t_UnknownName : PySem.W.typeIn K (.ref f_UnknownName_init) = some (.type "function"))
    {od_UnknownName_init an_UnknownName_init : Option Addr} {sl_UnknownName_init : Array (Option Value)} {oc_UnknownName_init kV_UnknownName_init dc_UnknownName_init pm_UnknownName_init ct_UnknownName_init : Value}
    {ca_UnknownName_init cc_UnknownName_init : Addr} {cl_UnknownName_init cv_UnknownName_init : Value} {ce_UnknownName_init cf_UnknownName_init : Option Addr} {cs_UnknownName_init ct2_UnknownName_init : Array (Option Value)} {vs_UnknownName_init : Array Value} {fl_UnknownName_init : Str} {tf_UnknownName_init : Tok}
    (l_UnknownName_init : K.lookup f_UnknownName_init = some ⟨oc_UnknownName_init, od_UnknownName_init, .func (PySem.W.ksFn "__init__" "UnknownName.__init__" (defArgs s_UnknownName_init) (defBody s_UnknownName_init) (defScope s_UnknownName_init) .none kV_UnknownName_init dc_UnknownName_init pm_UnknownName_init an_UnknownName_init (.ref ca_UnknownName_init) ct_UnknownName_init cc_UnknownName_init), sl_UnknownName_init⟩)
    (c_UnknownName_init : PySem.W.codeIn K (.ref ca_UnknownName_init) "UnknownName.__init__" = true) (k_UnknownName_init : PySem.W.keepIn K (.ref f_UnknownName_init) = true)
    (lc_UnknownName_init : K.lookup cc_UnknownName_init = some ⟨cl_UnknownName_init, ce_UnknownName_init, .cell (some (.ref C_UnknownName)), cs_UnknownName_init⟩) (lv_UnknownName_init : K.lookup ca_UnknownName_init = some ⟨cv_UnknownName_init, cf_UnknownName_init, .fields vs_UnknownName_init, ct2_UnknownName_init⟩) (v2_UnknownName_init : vs_UnknownName_init[2]? = some (.str fl_UnknownName_init tf_UnknownName_init)) (fe_UnknownName_init : ((l.prog.main.file : Str) == fl_UnknownName_init) = true)
    (mr_UnknownName : PySem.W.mroIn K C_UnknownName (.ref C_UnknownName) = some true) (sv_UnknownName : PySem.W.subIn K (.ref C_UnknownName) (.type "ValueError") = some true) (sm_UnknownName : PySem.W.ks_superIn K C_UnknownName C_UnknownName "__init__" = some (some (.builtin "ValueError.__init__"))) (op_UnknownName : PySem.W.nsIn K cStatics "thirdparty.any" = some none) (tp_UnknownName : (l.prog.main.scope.names.lookup ("super" : Str)).isSome = false)
    (n_UnknownName_name : PySem.W.findIn K (.ref C_UnknownName) "name" = some none)
    (e_UnknownName_UnknownName : PySem.W.subIn K (.ref C_UnknownName) (.ref C_UnknownName) = some true)
    (z_super : PySem.W.nsIn K mainGlobals "super" = some none)
    (z_zip : PySem.W.nsIn K mainGlobals "zip" = some none)
    (z_tuple : PySem.W.nsIn K mainGlobals "tuple" = some none)
    (z_range : PySem.W.nsIn K mainGlobals "range" = some none)
    (z_len : PySem.W.nsIn K mainGlobals "len" = some none)
    (z_int : PySem.W.nsIn K mainGlobals "int" = some none)
    (z_abs : PySem.W.nsIn K mainGlobals "abs" = some none)
    (z_repr : PySem.W.nsIn K mainGlobals "repr" = some none)
    (z_min : PySem.W.nsIn K mainGlobals "min" = some none) :
    ∃ fd : FuncData, (∀ (s : Shared) (v : Value), BindsTo s fd ⟨[v], []⟩ [("script", v)]) ∧ ∀ base : Heap, K.In base → base.Ns mainGlobals mg → FnG l.prog w K mg base CX0 10 fa fd ["script"] (spLaw K) := by
  have e := hfa.symm.trans (PySem.W.mg_of X G a22)
  cases e
  have F1 := fun_mk (st := s_lowest_terms) l1 c1 k1
  have F2 := fun_mk (st := s_denominator_of) l2 c2 k2
  have F3 := fun_mk (st := s_form_at) l3 c3 k3
  have F4 := fun_mk (st := s_unit) l4 c4 k4
  have F5 := fun_mk (st := s_opposite) l5 c5 k5
  have F6 := fun_mk (st := s_one_less) l6 c6 k6
  have F7 := fun_mk (st := s_faces) l7 c7 k7
  have F8 := fun_mk (st := s_summed) l8 c8 k8
  have F9 := fun_mk (st := s_name_form) l9 c9 k9
  have F10 := fun_mk (st := s_not_form) l10 c10 k10
  have F11 := fun_mk (st := s_law_begun) l11 c11 k11
  have F12 := fun_mk (st := s_law_draw) l12 c12 k12
  have F13 := fun_mk (st := s_law_of) l13 c13 k13
  have F14 := fun_mk (st := s_law_lowest) l14 c14 k14
  have F15 := fun_mk (st := s_law_some_value) l15 c15 k15
  have F16 := fun_mk (st := s_law_whole) l16 c16 k16
  have F17 := fun_mk (st := s_law_form) l17 c17 k17
  have F18 := fun_mk (st := s_law_at_right) l18 c18 k18
  have F19 := fun_mk (st := s_law_sums_right) l19 c19 k19
  have F20 := fun_mk (st := s_law_faces_right) l20 c20 k20
  have F21 := fun_mk (st := s_law_names_right) l21 c21 k21
  have F22 := fun_mk (st := s_law) l22 c22 k22
  have b1 := F1.binds (ps := ["above", "below"]) fun _ _ _ _ _ _ us hl => match us, hl with | [_, _], _ => rfl
  have b2 := F2.binds (ps := ["point"]) fun _ _ _ _ _ _ us hl => match us, hl with | [_], _ => rfl
  have b3 := F3.binds (ps := ["form", "point"]) fun _ _ _ _ _ _ us hl => match us, hl with | [_, _], _ => rfl
  have b4 := F4.binds (ps := ["place", "count"]) fun _ _ _ _ _ _ us hl => match us, hl with | [_, _], _ => rfl
  have b5 := F5.binds (ps := ["form"]) fun _ _ _ _ _ _ us hl => match us, hl with | [_], _ => rfl
  have b6 := F6.binds (ps := ["form"]) fun _ _ _ _ _ _ us hl => match us, hl with | [_], _ => rfl
  have b7 := F7.binds (ps := ["count"]) fun _ _ _ _ _ _ us hl => match us, hl with | [_], _ => rfl
  have b8 := F8.binds (ps := ["forms", "multiples"]) fun _ _ _ _ _ _ us hl => match us, hl with | [_, _], _ => rfl
  have b9 := F9.binds (ps := ["names", "name"]) fun _ _ _ _ _ _ us hl => match us, hl with | [_, _], _ => rfl
  have b10 := F10.binds (ps := ["form"]) fun _ _ _ _ _ _ us hl => match us, hl with | [_], _ => rfl
  have b11 := F11.binds (ps := ["script", "k"]) fun _ _ _ _ _ _ us hl => match us, hl with | [_, _], _ => rfl
  have b12 := F12.binds (ps := ["m", "below"]) fun _ _ _ _ _ _ us hl => match us, hl with | [_, _], _ => rfl
  have b13 := F13.binds (ps := ["m", "some"]) fun _ _ _ _ _ _ us hl => match us, hl with | [_, _], _ => rfl
  have b14 := F14.binds (ps := ["above", "below"]) fun _ _ _ _ _ _ us hl => match us, hl with | [_, _], _ => rfl
  have b15 := F15.binds (ps := ["m"]) fun _ _ _ _ _ _ us hl => match us, hl with | [_], _ => rfl
  have b16 := F16.binds (ps := ["m"]) fun _ _ _ _ _ _ us hl => match us, hl with | [_], _ => rfl
  have b17 := F17.binds (ps := ["m", "count"]) fun _ _ _ _ _ _ us hl => match us, hl with | [_, _], _ => rfl
  have b18 := F18.binds (ps := ["m", "count"]) fun _ _ _ _ _ _ us hl => match us, hl with | [_, _], _ => rfl
  have b19 := F19.binds (ps := ["m", "count"]) fun _ _ _ _ _ _ us hl => match us, hl with | [_, _], _ => rfl
  have b20 := F20.binds (ps := ["count"]) fun _ _ _ _ _ _ us hl => match us, hl with | [_], _ => rfl
  have b21 := F21.binds (ps := ["m", "count"]) fun _ _ _ _ _ _ us hl => match us, hl with | [_, _], _ => rfl
  have F_UnknownName_init : SupFun l.prog K C_UnknownName "UnknownName.__init__" s_UnknownName_init f_UnknownName_init _ := ⟨⟨_, _, _, _, _, _, _, _, _, _, rfl, l_UnknownName_init, c_UnknownName_init, ⟨_, _, _, lc_UnknownName_init⟩, ⟨_, _, _, _, _, _, lv_UnknownName_init, v2_UnknownName_init, fe_UnknownName_init⟩⟩, k_UnknownName_init⟩
  have b_UnknownName_init : Binds K _ ["self", "name"] [] := Binds.all (fd := PySem.W.ksFn "__init__" "UnknownName.__init__" (defArgs s_UnknownName_init) (defBody s_UnknownName_init) (defScope s_UnknownName_init) .none kV_UnknownName_init dc_UnknownName_init pm_UnknownName_init an_UnknownName_init (.ref ca_UnknownName_init) ct_UnknownName_init cc_UnknownName_init) fun us hl => match us, hl with | [_, _], _ => rfl
  have S_UnknownName : SupC l.prog K C_UnknownName := ⟨Option.isSome_iff_exists.mp (clsIn_exc l_UnknownName), mr_UnknownName, sv_UnknownName, sm_UnknownName, op_UnknownName, tp_UnknownName⟩
  have T : Txt l.prog K mg := {
    f_lowest_terms := f1,
    d_lowest_terms := _,
    F_lowest_terms := F1,
    b_lowest_terms := b1,
    g_lowest_terms := PySem.W.mg_of X G a1,
    f_denominator_of := f2,
    d_denominator_of := _,
    F_denominator_of := F2,
    b_denominator_of := b2,
    g_denominator_of := PySem.W.mg_of X G a2,
    f_form_at := f3,
    d_form_at := _,
    F_form_at := F3,
    b_form_at := b3,
    g_form_at := PySem.W.mg_of X G a3,
    f_unit := f4,
    d_unit := _,
    F_unit := F4,
    b_unit := b4,
    g_unit := PySem.W.mg_of X G a4,
    f_opposite := f5,
    d_opposite := _,
    F_opposite := F5,
    b_opposite := b5,
    g_opposite := PySem.W.mg_of X G a5,
    f_one_less := f6,
    d_one_less := _,
    F_one_less := F6,
    b_one_less := b6,
    g_one_less := PySem.W.mg_of X G a6,
    f_faces := f7,
    d_faces := _,
    F_faces := F7,
    b_faces := b7,
    g_faces := PySem.W.mg_of X G a7,
    f_summed := f8,
    d_summed := _,
    F_summed := F8,
    b_summed := b8,
    g_summed := PySem.W.mg_of X G a8,
    f_name_form := f9,
    d_name_form := _,
    F_name_form := F9,
    b_name_form := b9,
    g_name_form := PySem.W.mg_of X G a9,
    f_not_form := f10,
    d_not_form := _,
    F_not_form := F10,
    b_not_form := b10,
    g_not_form := PySem.W.mg_of X G a10,
    f_law_begun := f11,
    d_law_begun := _,
    F_law_begun := F11,
    b_law_begun := b11,
    g_law_begun := PySem.W.mg_of X G a11,
    f_law_draw := f12,
    d_law_draw := _,
    F_law_draw := F12,
    b_law_draw := b12,
    g_law_draw := PySem.W.mg_of X G a12,
    f_law_of := f13,
    d_law_of := _,
    F_law_of := F13,
    b_law_of := b13,
    g_law_of := PySem.W.mg_of X G a13,
    f_law_lowest := f14,
    d_law_lowest := _,
    F_law_lowest := F14,
    b_law_lowest := b14,
    g_law_lowest := PySem.W.mg_of X G a14,
    f_law_some_value := f15,
    d_law_some_value := _,
    F_law_some_value := F15,
    b_law_some_value := b15,
    g_law_some_value := PySem.W.mg_of X G a15,
    f_law_whole := f16,
    d_law_whole := _,
    F_law_whole := F16,
    b_law_whole := b16,
    g_law_whole := PySem.W.mg_of X G a16,
    f_law_form := f17,
    d_law_form := _,
    F_law_form := F17,
    b_law_form := b17,
    g_law_form := PySem.W.mg_of X G a17,
    f_law_at_right := f18,
    d_law_at_right := _,
    F_law_at_right := F18,
    b_law_at_right := b18,
    g_law_at_right := PySem.W.mg_of X G a18,
    f_law_sums_right := f19,
    d_law_sums_right := _,
    F_law_sums_right := F19,
    b_law_sums_right := b19,
    g_law_sums_right := PySem.W.mg_of X G a19,
    f_law_faces_right := f20,
    d_law_faces_right := _,
    F_law_faces_right := F20,
    b_law_faces_right := b20,
    g_law_faces_right := PySem.W.mg_of X G a20,
    f_law_names_right := f21,
    d_law_names_right := _,
    F_law_names_right := F21,
    b_law_names_right := b21,
    g_law_names_right := PySem.W.mg_of X G a21,
    m_gcd := PySem.W.mg_of X G m_gcd,
    m_lcm := PySem.W.mg_of X G m_lcm,
    S_UnknownName := S_UnknownName,
    C_UnknownName := C_UnknownName,
    m_UnknownName := PySem.W.mg_of X G m_UnknownName,
    o_UnknownName := ⟨⟨_, _, _, _, _, _, _, _, _, _, _, _, _, _, _, l_UnknownName, h_UnknownName⟩, sa_UnknownName, xc_UnknownName, ty_UnknownName, kp_UnknownName⟩,
    x_UnknownName := ⟨ga_UnknownName, gg_UnknownName, xc_UnknownName, hd_UnknownName⟩,
    f_UnknownName_init := f_UnknownName_init,
    d_UnknownName_init := _,
    F_UnknownName_init := F_UnknownName_init,
    b_UnknownName_init := b_UnknownName_init,
    i_UnknownName := i_UnknownName,
    t_UnknownName := t_UnknownName,
    n_UnknownName_name := n_UnknownName_name,
    e_UnknownName_UnknownName := exm_of (clsIn_exc l_UnknownName) ty_UnknownName xc_UnknownName e_UnknownName_UnknownName,
    z_super := PySem.W.mg_none_of X G z_super,
    z_zip := PySem.W.mg_none_of X G z_zip,
    z_tuple := PySem.W.mg_none_of X G z_tuple,
    z_range := PySem.W.mg_none_of X G z_range,
    z_len := PySem.W.mg_none_of X G z_len,
    z_int := PySem.W.mg_none_of X G z_int,
    z_abs := PySem.W.mg_none_of X G z_abs,
    z_repr := PySem.W.mg_none_of X G z_repr,
    z_min := PySem.W.mg_none_of X G z_min }
  exact ⟨_, fun s v => .of_eq rfl, fun base _ _ => ok_law T F22⟩
theorem walk {l : PySem.W.OpenLaw} {q : Program} {loose : List Str} {XP : (Str → Option Value) → Heap → Prop} {YP : World → Heap → Prop}
    {d : DefRec} {K : Params → PySem.W.Frag} (hn : l.most = some 63) (hdf : d.params.defaults = [])
    (hY : ∀ (w : World) (h : Heap), YP w h → (K w.params).In h)
    (F : ∀ (w : World) (mg : Str → Option Value) (fa : Addr) (h : Heap), (K w.params).In h → h.Ns mainGlobals mg → mg d.name = some (.ref fa) →
      ∃ fd : FuncData, (∀ (s : Shared) (u : Value), BindsTo s fd ⟨[u], []⟩ [("script", u)]) ∧
        ∀ base : Heap, (K w.params).In base → base.Ns mainGlobals mg → FnG l.prog w (K w.params) mg base CX0 10 fa fd ["script"] (spLaw (K w.params))) :
    PySem.W.WalkO q loose XP YP l.row.toRowW d [] (fun f vs => PySem.call f vs) :=
  Gd.walkG (n := 63) (k := 10) (x := "script") (sp := fun w => spLaw (K w.params)) hn (by decide) hdf ⟨rfl, by decide, by decide⟩ hY F (fun w H a ns hl hb _ hS => ⟨a, ns, rfl, hS, hl, hb, fun _ => rfl⟩)
end Lw
open PySem PySem.W PyProof.Rows in
set_option maxRecDepth 100000 in
set_option maxHeartbeats 0 in
theorem PySem.Challenge.cw_halftruths_k05_forms_and_faces_holds : PySem.Challenge.rw_halftruths_k05_forms_and_faces.Holds := by
  w_on; o_law; k_head; (case hw => w_witness2)
  k_fill
  refine Lw.walk (l := PySem.Challenge.rw_halftruths_k05_forms_and_faces) rfl rfl (fun w h Y => PySem.W.kIn_of Y) ?F
  case F =>
    intro w mg fa h KX G hmg
    refine' Lw.all_mk KX G hmg ?a1 ?l1 ?c1 ?k1 ?a2 ?l2 ?c2 ?k2 ?a3 ?l3 ?c3 ?k3 ?a4 ?l4 ?c4 ?k4 ?a5 ?l5 ?c5 ?k5 ?a6 ?l6 ?c6 ?k6 ?a7 ?l7 ?c7 ?k7 ?a8 ?l8 ?c8 ?k8 ?a9 ?l9 ?c9 ?k9 ?a10 ?l10 ?c10 ?k10 ?a11 ?l11 ?c11 ?k11 ?a12 ?l12 ?c12 ?k12 ?a13 ?l13 ?c13 ?k13 ?a14 ?l14 ?c14 ?k14 ?a15 ?l15 ?c15 ?k15 ?a16 ?l16 ?c16 ?k16 ?a17 ?l17 ?c17 ?k17 ?a18 ?l18 ?c18 ?k18 ?a19 ?l19 ?c19 ?k19 ?a20 ?l20 ?c20 ?k20 ?a21 ?l21 ?c21 ?k21 ?a22 ?l22 ?c22 ?k22 ?m_gcd ?m_lcm ?m_UnknownName ?l_UnknownName ?h_UnknownName ?sa_UnknownName ?xc_UnknownName ?ty_UnknownName ?kp_UnknownName ?ga_UnknownName ?gg_UnknownName ?hd_UnknownName ?i_UnknownName ?t_UnknownName ?l_UnknownName_init ?c_UnknownName_init ?k_UnknownName_init ?lc_UnknownName_init ?lv_UnknownName_init ?v2_UnknownName_init ?fe_UnknownName_init ?mr_UnknownName ?sv_UnknownName ?sm_UnknownName ?op_UnknownName ?tp_UnknownName ?n_UnknownName_name ?e_UnknownName_UnknownName ?z_super ?z_zip ?z_tuple ?z_range ?z_len ?z_int ?z_abs ?z_repr ?z_min
    (case a1 => k_is)
    (case l1 => k_is)
    (case c1 => k_is)
    (case k1 => k_is)
    (case a2 => k_is)
    (case l2 => k_is)
    (case c2 => k_is)
    (case k2 => k_is)
    (case a3 => k_is)
    (case l3 => k_is)
    (case c3 => k_is)
    (case k3 => k_is)
    (case a4 => k_is)
    (case l4 => k_is)
    (case c4 => k_is)
    (case k4 => k_is)
    (case a5 => k_is)
    (case l5 => k_is)
    (case c5 => k_is)
    (case k5 => k_is)
    (case a6 => k_is)
    (case l6 => k_is)
    (case c6 => k_is)
    (case k6 => k_is)
    (case a7 => k_is)
    (case l7 => k_is)
    (case c7 => k_is)
    (case k7 => k_is)
    (case a8 => k_is)
    (case l8 => k_is)
    (case c8 => k_is)
    (case k8 => k_is)
    (case a9 => k_is)
    (case l9 => k_is)
    (case c9 => k_is)
    (case k9 => k_is)
    (case a10 => k_is)
    (case l10 => k_is)
    (case c10 => k_is)
    (case k10 => k_is)
    (case a11 => k_is)
    (case l11 => k_is)
    (case c11 => k_is)
    (case k11 => k_is)
    (case a12 => k_is)
    (case l12 => k_is)
    (case c12 => k_is)
    (case k12 => k_is)
    (case a13 => k_is)
    (case l13 => k_is)
    (case c13 => k_is)
    (case k13 => k_is)
    (case a14 => k_is)
    (case l14 => k_is)
    (case c14 => k_is)
    (case k14 => k_is)
    (case a15 => k_is)
    (case l15 => k_is)
    (case c15 => k_is)
    (case k15 => k_is)
    (case a16 => k_is)
    (case l16 => k_is)
    (case c16 => k_is)
    (case k16 => k_is)
    (case a17 => k_is)
    (case l17 => k_is)
    (case c17 => k_is)
    (case k17 => k_is)
    (case a18 => k_is)
    (case l18 => k_is)
    (case c18 => k_is)
    (case k18 => k_is)
    (case a19 => k_is)
    (case l19 => k_is)
    (case c19 => k_is)
    (case k19 => k_is)
    (case a20 => k_is)
    (case l20 => k_is)
    (case c20 => k_is)
    (case k20 => k_is)
    (case a21 => k_is)
    (case l21 => k_is)
    (case c21 => k_is)
    (case k21 => k_is)
    (case a22 => k_is)
    (case l22 => k_is)
    (case c22 => k_is)
    (case k22 => k_is)
    (case m_gcd => k_is)
    (case m_lcm => k_is)
    (case m_UnknownName => k_is)
    (case l_UnknownName => k_is)
    (case h_UnknownName => rfl)
    (case sa_UnknownName => k_is)
    (case xc_UnknownName => k_is)
    (case ty_UnknownName => k_is)
    (case kp_UnknownName => k_is)
    (case ga_UnknownName => k_is)
    (case gg_UnknownName => k_is)
    (case hd_UnknownName => k_is)
    (case i_UnknownName => k_is)
    (case t_UnknownName => k_is)
    (case l_UnknownName_init => k_is)
    (case c_UnknownName_init => k_is)
    (case k_UnknownName_init => k_is)
    (case lc_UnknownName_init => k_is)
    (case lv_UnknownName_init => k_is)
    (case v2_UnknownName_init => rfl)
    (case fe_UnknownName_init => first | rfl | decide +kernel)
    (case mr_UnknownName => k_is)
    (case sv_UnknownName => k_is)
    (case sm_UnknownName => first | ks_is | k_is)
    (case op_UnknownName => k_is)
    (case tp_UnknownName => decide +kernel)
    (case n_UnknownName_name => k_is)
    (case e_UnknownName_UnknownName => k_is)
    (case z_super => k_is)
    (case z_zip => k_is)
    (case z_tuple => k_is)
    (case z_range => k_is)
    (case z_len => k_is)
    (case z_int => k_is)
    (case z_abs => k_is)
    (case z_repr => k_is)
    (case z_min => k_is)
#print axioms PySem.Challenge.cw_halftruths_k05_forms_and_faces_holds
