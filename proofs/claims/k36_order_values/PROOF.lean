import PyProof.Rows.All
import Wide.All
import OpenK.AllK
import Wide.FinOn
import HandS.Base
import HandS.Call
import HandS.List
import HandS.Ends
import HandS.EndBits
import HandS.Words
import HandS.Wide
import HandS.Conv
import HandS.Style
import HandS.TupAny
import HandS.ForMost
import HandS.Zip
import HandS.Walk
import HandS.Evl
import HandS.Exc
import HandS.ExcOwn
import HandS.ExcInit
import HandS.ExcField
import HandS.WordsExc
import HandS.TryMany
import HandS.TupMul
import HandS.IsInst
import HandS.Gcd
import HandS.Strs
import KE.KMathGC
import KE.GoesNew
import KE.GoesMore
import KE.KExcSuper
import HandS.ClsMeth
import HandS.Lambda
import HandS.DictComp
import HandS.SortKw
import KE.DataMinMax
import KE.KDictZip
import KE.GoesEnum
import HandS.Flow
import HandS.WordsDict
import HandS.SetFor
import HandS.Iter
import HandS.CallLocal
import HandS.Text
import HandS.Deep
import HandS.TupLe
import HandS.Dict
import HandS.Flt
import HandS.SortInts
import PySem.Challenge.RW_halftruths_k36_order_values
set_option Elab.async false
set_option linter.all false
set_option maxRecDepth 100000
set_option maxHeartbeats 2000000
/-! # defs whose callers stand under no guard: what repr of a tuple or a list wants -/
namespace Gd
open PySem PySem.Spec PyProof.Rows L2

/-- as FnOk, for callers under no guard -/
structure FnG (P : Program) (w : World) (K : PySem.W.Frag) (mg : Str → Option Value) (base : Heap) (CX : CXT)
    (k : Nat) (f : Addr) (fd : FuncData) (ps : List Str) (sp : Sp) : Prop where
  len : ∀ vs H Q E, sp vs H Q E → vs.length = ps.length
  run : ∀ (A : Around) (outer : List Env) (s : Shared) (H : Hp) (args : Args) (us : List Value) (vs : List V) (Q : VK) (E : XK),
    Room k A → A.guards = some [] → Env0 P w K mg base A outer s H → BindsTo s fd args (ps.zip us) → Vals vs us →
    sp vs H Q E → codeAny (model P w) A (.call (.ref f) args) (CR CX outer P w H s Q E) s

section
variable {P : Program} {w : World} {K : PySem.W.Frag} {mg : Str → Option Value} {base : Heap} {CX : CXT} {k : Nat} {f : Addr} {fd : FuncData}
  {ps : List Str} {sp : Sp}
theorem FnG.of (F : FnOk P w K mg base CX k f fd ps sp) : FnG P w K mg base CX k f fd ps sp :=
  ⟨F.len, fun A outer s H args us vs Q E hr _ => F.run A outer s H args us vs Q E hr⟩
end

section
variable {X : Cx} {CX : CXT} {k : Nat} {f : Addr} {fd : FuncData} {ps : List Str} {sp : Sp} {dvs : List V} {ds : List Value} {E : XK}
  {x : Str} {p pos : Pos} {e : Expr} {es : List Expr} {t : TA}
theorem runG {pins : List (Addr × Obj)} {σ : L2.St} {H : Hp} {s : Shared} {Q : VK} {us : List Value} {vs : List V}
    (F : FnG X.prog X.w X.K X.mg X.base CX k f fd ps sp) (hr : Room k X.A) (gd : X.A.guards = some []) (hb : Binds X.K fd ps ds)
    (hd : Vals dvs ds) (hx : Passes CX X E) (I : Inv X pins σ H s) (r : Vals vs us) (h : sp (vs ++ dvs) H Q E) :
    wpAny (model X.prog X.w) X.A (call (.ref f) us) (EP X pins σ Q) X.xe s := by
  have both : Vals (vs ++ dvs) (us ++ ds) := r.append hd
  have many : (us ++ ds).length = ps.length := both.length.symm.trans (F.len _ _ _ _ h)
  have bound := hb s us I.kIn many
  refine wpAny_call (codeAny_mono (F.run X.A X.stack s H ⟨us, []⟩ (us ++ ds) (vs ++ dvs) Q E hr gd I.env0 bound both h) ?_)
  rintro (e | fl) s' q
  · exact hx pins σ H s e s' I q
  · cases fl <;> first | exact I.after q | exact q.elim
/-- f(e, ..) -/
theorem pe_callG (F : FnG X.prog X.w X.K X.mg X.base CX k f fd ps sp) (hr : Room k X.A) (gd : X.A.guards = some []) (hg : Gl X x)
    (hm : X.mg x = some (.ref f)) (hk : PySem.W.keepIn X.K (.ref f) = true) (hb : Binds X.K fd ps ds) (hd : Vals dvs ds) (hx : Passes CX X E)
    (ha : PA X (e :: es) t) (hdb : (x == ("__debug__" : Str)) = false := by decide)
    (he : starEach (e :: es) X.env = (false, eval e X.env) :: starEach es X.env := by rfl)
    (hpl : (backTo pos (starEach es X.env)).any (·.1) = false := by rfl) :
    PE X (.Call (.Name x p) (e :: es) [] pos) (tCall sp dvs E t) := by
  constructor
  intro pins s σ H Q I h
  apply wpAny_Call_Name_kw
  apply ld_glob I hg hm _ hdb
  refine PySem.W.callWith_K (h₀ := X.base) I.ok.mod.kin hk (thn (ha.run pos pins s σ H _ I h) ?_) he hpl
  rintro us s1 ⟨vs, H1, I1, r, q⟩
  exact ⟨I1.kIn, runG F hr gd hb hd hx I1 r q⟩
end

section
variable {P : Program} {w : World} {K : PySem.W.Frag} {mg : Str → Option Value} {base : Heap}
/-- a def of the text by its body, where no guard stands around -/
theorem okG {x qual : Str} {st : Stmt} {f : Addr} {fd : FuncData} {N ps : List Str} {k : Nat} {sp : Sp} (F : Fun K x qual st f fd)
    (S : FnScope N ps (defScope st)) (len : ∀ vs H Q E, sp vs H Q E → vs.length = ps.length)
    (body : ∀ (cdv : Value) (A : Around) (outer : List Env) (s : Shared) (H : Hp) (vs : List V) (Q : VK) (E : XK),
      Room k (A.deeper (envOfC qual (defScope st) s.heap.objs.size f cdv)) →
      (A.deeper (envOfC qual (defScope st) s.heap.objs.size f cdv)).guards = some [] → sp vs H Q E →
      ∃ t, PSs (cxOf CX0 P w K mg base N qual (defScope st) f cdv A outer s H E).nox (defBody st) t ∧
        t { nx := fun _ H' => Q .non H', rt := Q } (start N vs) H) :
    FnG P w K mg base CX0 (k + 1) f fd ps sp := by
  obtain ⟨oc, od, kV, doc, pm, an, cdv, ct, osl, rfl, lk, code⟩ := F.ex
  constructor
  · exact len
  intro A outer s H args us vs Q E hr gd e0 hb r h
  have many := len _ _ _ _ h
  have KX : K.In s.heap := e0.mod.kin.keeps fun b o q => (e0.bs b o q).1
  have lim : s.heap.NoLimit := e0.mod.nolimit.keeps fun b o q => (e0.bs b o q).1
  have kinds : ∀ y ∈ ps.zip us, (defScope st).names.lookup y.1 = some .local ∨ ((defScope st).names.lookup y.1 = some .cell ∧
      ((cellsFrom (s.heap.objs.size + 1) (defScope st).names []).lookup y.1).isSome = true) := by
    rintro ⟨n, v⟩ hy
    rcases S.par n (List.of_mem_zip hy).1 with q | q
    · left; exact q
    · right; exact ⟨q, PySem.W.cellsFrom_some _ _ _ (.inl q)⟩
  refine codeAny_call_function hr.depth (KX _ _ lk) rfl S.co S.gen rfl (PySem.W.codeRec_of KX code) (hb _ _ _ _ ?_)
  refine wpAny_newFunctionEnv_cells S.kind kinds ?_
  rintro env rfl s1 x
  refine ⟨lim.keeps x.toInCall.keep, codeAny_func ?_⟩
  obtain ⟨t, ht, q⟩ := body cdv A outer s H vs Q E (hr.deeper _) (show (A.deeper _).guards = some [] from gd) h
  have I : Inv (cxOf CX0 P w K mg base N qual (defScope st) f cdv A outer s H E) [] (start N vs) H s1 := inv_start S hr.hd e0 many r x
  refine wpAny_mono (ht.nox.run [] s1 (start N vs) H _ I q) ?_ fun e s' z => z
  rintro fl s' z
  cases fl with
  | ret u =>
    obtain ⟨v, σ', H', J, rv, q⟩ := z
    exact ⟨v, H', J.os, J.bare, J.base, J.hok, rv, q⟩
  | next =>
    obtain ⟨σ', H', J, q⟩ := z
    exact ⟨V.non, H', J.os, J.bare, J.base, J.hok, rfl, q⟩
  | brk => obtain ⟨_, _, _, q⟩ := z; exact q.elim
  | cont => obtain ⟨_, _, _, q⟩ := z; exact q.elim
end

/-! ## the end: the law is called where no guard stands -/
section
open Att
theorem law_callG {P : Program} {w : World} {K : PySem.W.Frag} {mg mb : Str → Option Value} {k : Nat} {fa a : Addr} {fd : FuncData} {x : Str}
    {sp : Sp} {s : Shared} {vs : List Value} {ns : List Int}
    (KX : K.In s.heap) (hns : s.heap.Ns mainGlobals mg) (hb : s.heap.Ns builtinsNs mb) (hbb : ∀ x : Str, x ≠ "__name__" → mb x = bootBuiltins x)
    (hlim : s.heap.NoLimit) (hg : s.gens = #[]) (ha : s.heap.get? a = some { cls := .type "list", data := .seq vs.toArray })
    (hi : IntsAre vs ns) (hl : ns.length ≤ sizeLine) (hr : Room k callerA)
    (F : ∀ base : Heap, K.In base → base.Ns mainGlobals mg → FnG P w K mg base CX0 k fa fd [x] sp)
    (hbind : ∀ (s : Shared) (u : Value), BindsTo s fd ⟨[u], []⟩ [(x, u)])
    (hsp : ∀ H : Hp, Only H → SqL K H a (ns.map V.int) → sp [.ref a] H (fun v _ => v = .bl true) fun _ _ _ => False) :
    codeAny (model P w) callerA (.call (.ref fa) ⟨[.ref a], []⟩)
      (fun r s' => r = .ok (.ret (.bool true)) ∧ OldK s.heap s'.heap ∧ s'.os = s.os ∧ AllBare s'.gens) s := by
  -- over an abstract heap that knows at most the script
  have core : ∀ H : Hp, Only H → SqL K H a (ns.map V.int) → HOk P w H s.heap → (∀ b, H b ≠ none → b = a) → (H a ≠ none → K.lookup a = none) →
      codeAny (model P w) callerA (.call (.ref fa) ⟨[.ref a], []⟩)
        (fun r s' => r = .ok (.ret (.bool true)) ∧ OldK s.heap s'.heap ∧ s'.os = s.os ∧ AllBare s'.gens) s := by
    intro H only hS ok hA hK
    have free : ∀ {b : Addr} {o : Obj} {es : Array DictEntry} {ep : Nat}, s.heap.get? b = some o → o.data = .dict es ep → H b = none := by
      intro b o es ep q d
      cases z : H b with
      | none => rfl
      | some u =>
        obtain rfl : b = a := hA b (by rw [z]; exact fun y => nomatch y)
        obtain rfl : _ = o := Option.some.inj (ha.symm.trans q)
        exact nomatch d
    have ns_ : ∀ {b : Addr} {m : Str → Option Value}, s.heap.Ns b m → (hidT s.heap H).Ns b m := by
      rintro b m ⟨o, es, ep, q, d, z⟩
      exact ⟨o, es, ep, hidT_get q (free q d), d, z⟩
    have KB : K.In (hidT s.heap H) := by
      intro b o q
      refine hidT_get (KX b o q) ?_
      cases z : H b with
      | none => rfl
      | some u =>
        obtain rfl : b = a := hA b (by rw [z]; exact fun y => nomatch y)
        rw [hK (by rw [z]; exact fun y => nomatch y)] at q
        cases q
    obtain ⟨mc, l1, l2⟩ := hlim
    have M : Mod K mg (hidT s.heap H) := ⟨KB, ns_ hns, ⟨mb, ns_ hb, hbb⟩, mc, ns_ l1, l2⟩
    have e0 : Env0 P w K mg (hidT s.heap H) callerA [] s H :=
      ⟨rfl, M, fun b o q => of_hidT q, Nat.le_of_eq (hidT_size _ _), trivial, (fun b z => by cases z), ok, .of_eq hg⟩
    refine codeAny_mono ((F _ KB (ns_ hns)).run callerA [] s H ⟨[.ref a], []⟩ [.ref a] [.ref a] _ _ hr rfl e0 (hbind s (.ref a))
      (.cons rfl .nil) (hsp H only hS)) ?_
    rintro (e | fl) s' h
    · exact (show False from h).elim
    · cases fl with
      | next => exact (show False from h).elim
      | brk => exact (show False from h).elim
      | cont => exact (show False from h).elim
      | ret u =>
        obtain ⟨v, H', os, bare, un, ok', rel, q⟩ := h
        obtain rfl : v = .bl true := q
        obtain rfl : u = Value.bool true := rel
        refine ⟨rfl, OldK.of_keep ?_, os, bare⟩
        intro b o q
        cases z : H b with
        | none => exact un.keep b o q z (fun y => by cases y) (fun y => by cases y)
        | some u =>
          rcases only b with y | ⟨ob, xs, y⟩
          · rw [z] at y; cases y
          · obtain ⟨q1, _⟩ := ok b _ y
            obtain ⟨q2, _⟩ := ok' b _ (un.frzs b ob _ y)
            rw [q] at q1
            cases q1
            exact q2
  have rv := vals_ints hi
  have many := hi.length
  cases hk : K.lookup a with
  | some o =>
    have q := KX a o hk
    rw [ha] at q
    cases q
    refine core (fun _ => none) (fun _ => .inl rfl) (.inr ⟨_, vs.toArray, _, hk, rfl, rfl, rfl, ?_, by simpa using rv⟩) (fun b u z => by cases z) (fun b z => absurd rfl z)
      fun z => absurd rfl z
    rw [List.size_toArray, many]
    exact hl
  | none =>
    have at_a : ∀ {b : Addr} {u : HO}, (if b = a then some (HO.frz { cls := .type "list", data := .seq vs.toArray } (.lst (ns.map V.int))) else none) = some u →
        b = a ∧ u = .frz { cls := .type "list", data := .seq vs.toArray } (.lst (ns.map V.int)) := by
      intro b u z
      by_cases e : b = a
      · rw [if_pos e] at z
        exact ⟨e, (Option.some.inj z).symm⟩
      · rw [if_neg e] at z
        cases z
    refine core (fun b => if b = a then some (.frz { cls := .type "list", data := .seq vs.toArray } (.lst (ns.map V.int))) else none) ?_
      (.inl (.inr ⟨{ cls := .type "list", data := .seq vs.toArray }, if_pos rfl⟩)) ?_ ?_ fun _ => hk
    · intro b
      by_cases e : b = a
      · exact .inr ⟨_, _, if_pos e⟩
      · exact .inl (if_neg e)
    · intro b u z
      obtain ⟨rfl, rfl⟩ := at_a z
      exact ⟨ha, by rw [List.length_map]; exact hl, vs, _, rv, ha⟩
    · intro b z
      by_cases e : b = a
      · exact e
      · exact absurd (if_neg e) z
theorem walkG {l : PySem.W.OpenLaw} {n k : Nat} {q : Program} {loose : List Str} {XP : (Str → Option Value) → Heap → Prop} {YP : World → Heap → Prop}
    {d : DefRec} {K : Params → PySem.W.Frag} {sp : World → Sp} {x : Str}
    (hn : l.most = some n) (hn2 : n ≤ sizeLine) (hdf : d.params.defaults = []) (hr : Room k callerA)
    (hY : ∀ (w : World) (h : Heap), YP w h → (K w.params).In h)
    (F : ∀ (w : World) (mg : Str → Option Value) (fa : Addr) (h : Heap), (K w.params).In h → h.Ns mainGlobals mg → mg d.name = some (.ref fa) →
      ∃ fd : FuncData, (∀ (s : Shared) (u : Value), BindsTo s fd ⟨[u], []⟩ [(x, u)]) ∧
        ∀ base : Heap, (K w.params).In base → base.Ns mainGlobals mg → FnG l.prog w (K w.params) mg base CX0 k fa fd [x] (sp w))
    (hsp : ∀ (w : World) (H : Hp) (a : Addr) (ns : List Int), ns.length ≤ n → (∀ z ∈ ns, Builtin.Int.intBits z ≤ 1048576) → Only H →
      SqL (K w.params) H a (ns.map V.int) → sp w [.ref a] H (fun v _ => v = .bl true) fun _ _ _ => False) :
    PySem.W.WalkO q loose XP YP l.row.toRowW d [] (fun f vs => PySem.call f vs) := by
  refine attach_callB hn hdf ?_
  intro w s₀ s₁ mg mb fa o pm cd doc a vs ns G Y ho hd hcd hmg hobj hints hlen hbits hg
  obtain ⟨fd, hb, hF⟩ := F w mg fa _ (hY w _ Y) G.T.g hmg
  refine law_callG (hY w _ Y) G.T.g G.T.b G.T.builtins G.T.nolimit hg hobj hints (Nat.le_trans hlen hn2) hr hF hb ?_
  intro H only hS
  exact hsp w H a ns hlen hbits only hS
end

/-! ## repr of data -/
section
variable {X : Cx}
def rRepr (K : PySem.W.Frag) : List V → Hp → VK → Prop := fun vs H Q => ∃ v d, vs = [v] ∧ Dp K H v d ∧ d.showable = true ∧ d.hasDict = false ∧
  d.depth ≤ 150 ∧ d.shown.length ≤ sizeLine ∧ Q (.str d.shown) H
theorem call_reprD {k : Nat} (gd : X.A.guards = some []) (hr : Room k X.A) : CallR X (.builtin "repr") (rRepr X.K) := by
  intro pins s σ H vs us Q I r h
  obtain ⟨v, d, rfl, hd, sh, nd, dp, sz, q⟩ := h
  obtain ⟨u, rfl, rv⟩ : ∃ u, us = [u] ∧ RelV v u := by
    cases r with
    | cons a b =>
      cases b
      exact ⟨_, rfl, a⟩
  obtain ⟨as, rd⟩ := Dp.reads I d v u hd rv
  have room := hr.un
  have fin : ∀ h' t tk, (∀ b o, s.heap.get? b = some o → h'.get? b = some o) → EP X pins σ Q (.str d.shown t) { s with heap := h', toks := tk } := fun h' t tk keep =>
    ⟨.str d.shown, H, I.kept keep, ⟨t, rfl⟩, q⟩
  have nodict : d.hasDict = true → sysModules ∉ as := fun z => by rw [nd] at z; cases z
  by_cases hu : ∃ a, u = .ref a
  · obtain ⟨a, rfl⟩ := hu
    exact repr_of_reads' rd sh nodict gd (by omega) (fun _ _ e => e) fin sz
  · cases hd with
    | non =>
      cases rv
      refine PySem.P.repr_of_none ?_
      simp only [PyData.shown] at fin
      exact fin s.heap _ _ fun _ _ e => e
    | bl b =>
      cases rv
      refine PySem.P.repr_of_bool ?_
      simp only [PyData.shown] at fin
      exact fin s.heap _ _ fun _ _ e => e
    | int i =>
      obtain ⟨t, rfl⟩ := rv
      refine PySem.P.repr_of_int (by simpa [PyData.showable] using sh) ?_
      simp only [PyData.shown] at fin
      exact fin s.heap _ _ fun _ _ e => e
    | str x =>
      obtain ⟨t, rfl⟩ := rv
      refine PySem.P.repr_of_str ?_ (by simpa only [PyData.shown] using sz)
      simp only [PyData.shown] at fin
      exact fin s.heap _ _ fun _ _ e => e
    | lst _ _ => exact absurd ⟨_, rv⟩ hu
    | tup _ _ => exact absurd ⟨_, rv⟩ hu
end
end Gd

/-! # t[::-1] of a tuple, xs.extend(t), products of great ints -/
namespace Gd
open PySem PySem.Spec PyProof.Rows L2 HT

section
variable {prog : Program} {w : World} {A : Around} {E : Value → Shared → Prop} {s : Shared}
theorem adjust_back (n : Nat) : Builtin.Slice.sliceAdjust none none (-1) (n : Int) = ((n : Int) - 1, -1) := rfl
theorem places_back (n : Nat) : Builtin.Slice.slicePlaces ((n : Int) - 1) (-1) (-1) = n := by
  unfold Builtin.Slice.slicePlaces
  rw [if_neg (by decide)]
  by_cases h : 0 < n
  · rw [if_pos (show (n : Int) - 1 > -1 by omega)]
    show (((n : Int) - 1 - (-1) - 1) / 1 + 1).toNat = n
    rw [Int.ediv_one]
    omega
  · rw [if_neg (show ¬ (n : Int) - 1 > -1 by omega)]
    omega
theorem pick_back (xs : Array Value) : ((List.range xs.size).filterMap fun (k : Nat) => xs[((xs.size : Int) - 1 + (k : Int) * (-1)).toNat]?).toArray = xs.toList.reverse.toArray := by
  congr 1
  have e : ∀ l : List Nat, (∀ k ∈ l, k < xs.size) → (l.filterMap fun (k : Nat) => xs[((xs.size : Int) - 1 + (k : Int) * (-1)).toNat]?) = l.filterMap fun k => xs.toList.reverse[k]? := by
    intro l hl
    induction l with
    | nil => rfl
    | cons k r ih =>
      have hk := hl k List.mem_cons_self
      have e1 : ((xs.size : Int) - 1 + (k : Int) * (-1)).toNat = xs.size - 1 - k := by omega
      have e2 : xs[((xs.size : Int) - 1 + (k : Int) * (-1)).toNat]? = xs.toList.reverse[k]? := by
        rw [e1, List.getElem?_reverse (by simpa using hk)]
        simp
      rw [List.filterMap_cons, List.filterMap_cons, e2, ih fun j hj => hl j (List.mem_cons_of_mem _ hj)]
  rw [e _ fun k hk => List.mem_range.mp hk]
  have all : ∀ ys : List Value, ((List.range ys.length).filterMap fun k => ys[k]?) = ys := by
    intro ys
    induction ys with
    | nil => rfl
    | cons y r ih =>
      rw [List.length_cons, List.range_succ_eq_map, List.filterMap_cons]
      show y :: List.filterMap _ (List.map Nat.succ (List.range r.length)) = y :: r
      rw [List.filterMap_map]
      exact congrArg (y :: ·) ih
  have q := all xs.toList.reverse
  rw [List.length_reverse, Array.length_toList] at q
  exact q
theorem applied_back {sl : Addr} {vs : Value} {n : Nat} {Q : Int × Int × Nat → Shared → Prop} (hs : s.heap.IsSliceOf sl .none .none vs) (ps : IsPart vs (some (-1)))
    (h : Q ((n : Int) - 1, -1, n) s) : wpAny (model prog w) A (Builtin.Slice.sliceApplied (.ref sl) (pure (n : Int))) Q E s := by
  obtain ⟨os, hos, hcs, hds⟩ := id hs
  unfold Builtin.Slice.sliceApplied Builtin.Slice.sliceFields
  refine wpAny_bind (wpAny_bind (wpAny_field hos hds (x := .none) rfl ?_))
  refine wpAny_bind (wpAny_field hos hds (x := .none) rfl ?_)
  refine wpAny_bind (wpAny_field hos hds (x := vs) rfl ?_)
  refine wpAny_pure ?_
  refine wpAny_bind (slicePart_ ps ?_)
  show wpAny _ _ (if ((-1 : Int) == 0) = true then _ else _) _ _ s
  rw [if_neg (by decide)]
  refine wpAny_bind (slicePart_none (wpAny_bind (slicePart_none (wpAny_bind (wpAny_pure ?_)))))
  show wpAny _ _ (pure ((n : Int) - 1, (-1 : Int), Builtin.Slice.slicePlaces ((n : Int) - 1) (-1) (-1))) _ _ s
  rw [places_back]
  exact wpAny_pure h
theorem tuple_back {t sl : Addr} {items : Array Value} {vs : Value} {Q : Value → Shared → Prop} (ht : IsTup s.heap t items) (hs : s.heap.IsSliceOf sl .none .none vs)
    (ps : IsPart vs (some (-1))) (hsz : items.size ≤ sizeLine)
    (h : Q (.ref s.heap.objs.size) { s with heap := s.heap.push { cls := .type "tuple", data := .seq items.toList.reverse.toArray } }) :
    wpAny (model prog w) A (getItem (.ref t) (.ref sl)) Q E s := by
  have fit : sizeOk (.seq items.toList.reverse.toArray) := by
    show items.toList.reverse.toArray.size ≤ sizeLine
    simpa using hsz
  obtain ⟨os, hos, hcs, hds⟩ := id hs
  have hTs : s.TypeIs (.ref sl) "slice" := ⟨os, hos, hcs⟩
  unfold getItem
  try with_reducible refine wpAny_holding ?_
  first | refine wpAny_bind (wpAny_pure ?_) | skip
  refine wpAny_bind (wpAny_sequenceKey ht.typeIs (by decide) ?_)
  refine wpAny_bind (wpAny_callSpecial?_slot (name := Str.ofString "__getitem__") ht.typeIs slot_tuple_getitem
    (wpAny_call_entry slot_tuple_getitem ht.typeIs entry_tuple_getitem ?_ (args_tuple_getitem _ _)))
  show wpAny _ _ (Builtin.Tuple.tupleItemsOf (.ref t) >>= _) _ _ s
  refine wpAny_bind (tupleItemsOf_ ht (wpAny_bind (wpAny_typeOf hTs ?_)))
  rw [if_pos (by decide)]
  refine wpAny_bind (applied_back hs ps ?_)
  have no : ¬ ((((items.size : Int) - 1) == 0 && (-1 : Int) == 1 && items.size == items.size) = true) := by
    rw [show ((-1 : Int) == 1) = false from rfl, Bool.and_false, Bool.false_and]
    exact Bool.false_ne_true
  show wpAny _ _ (if (((items.size : Int) - 1) == 0 && (-1 : Int) == 1 && items.size == items.size) = true then _ else _) _ _ s
  rw [if_neg no, pick_back]
  first
    | exact wpAny_bind (m := Builtin.Tuple.tupleExact _) (wpAny_newObj_type (wpAny_pure ⟨_, rfl, wpAny_pure h⟩) fit)
    | exact wpAny_bind (wpAny_bind (m := Builtin.Tuple.tupleExact _) (wpAny_newObj_type (wpAny_pure (wpAny_pure ⟨_, rfl, wpAny_pure h⟩)) fit))
    | exact wpAny_bind (wpAny_bind (m := Builtin.Tuple.tupleExact _) (wpAny_newObj_type (wpAny_pure ⟨_, rfl, wpAny_pure h⟩) fit))
end
section
variable {X : Cx}
def tRevT (K : PySem.W.Frag) (te : TE) : TE := fun σ H Q => te σ H fun x H1 => ∃ a xs, x = .ref a ∧ SqT K H1 a xs ∧ ∀ p, H1 p = none → Q (.ref p) (upd H1 p (.tup xs.reverse))
theorem pe_revT {e : Expr} {te : TE} {k : Nat} {p1 p2 p3 pos : Pos} (he : PE X e te) :
    PE X (.Subscript e (.Slice none none (some (.UnaryOp .USub (.Constant (.int 1) k p1) p2)) p3) pos) (tRevT X.K te) := by
  constructor
  intro pins s σ H Q I h
  refine Subscript_ (thn (he.run pins s σ H _ I h) ?_)
  rintro v s1 ⟨x, H1, I1, r1, a, xs, rfl, hx, q⟩
  cases r1
  have step : PO X (some (.UnaryOp .USub (.Constant (.int 1) k p1) p2)) (tPart (tUn (rU fun i => .int (-i)) (tC (.int 1)))) := po_some (pe_un un_neg pe_int)
  refine wpAny_Slice (wpAny_of_eq (a := .none) (by first | exact evalPart_none .. | rfl) ?_)
  refine wpAny_of_eq (a := .none) (by first | exact evalPart_none .. | rfl) ?_
  refine thn (step.run pins s1 σ H1 (fun o H4 => o = some (-1) ∧ H4 = H1) I1 ⟨1, rfl, -1, rfl, rfl, rfl⟩) ?_
  rintro vs s4 ⟨o, H4, I4, ps, rfl, rfl⟩
  have I5 : Inv X pins σ H4 { s4 with heap := s4.heap.push { cls := .type "slice", data := .fields #[.none, .none, vs] } } :=
    I4.kept (t' := s4.toks) fun b ob q => Heap.get?_push_of_some _ q
  obtain ⟨its, r, ht, hz⟩ := I5.tuple hx
  have many := r.length
  show wpAny (model X.prog X.w) X.A (subscriptTail e (.Slice none none (some (.UnaryOp .USub (.Constant (.int 1) k p1) p2)) p3) (.ref a) (.ref s4.heap.objs.size))
    (EP X pins σ Q) X.xe { s4 with heap := s4.heap.push { cls := .type "slice", data := .fields #[.none, .none, vs] } }
  refine tail_any (ops := [.ref a, .ref s4.heap.objs.size]) ht.typeIs slot_tuple_getitem.lookup ?_ (by with_unfolding_all rfl)
  refine tuple_back ht (Heap.IsSliceOf.new _ _ _ vs) ps (by rw [List.size_toArray]; omega) ?_
  refine ⟨.ref _, _, I5.laid (t' := s4.toks) (o := .tup xs.reverse) (fun b ob q => Heap.get?_push_of_some _ q) (Nat.le_refl _) ?_, rfl, q _ (I5.hok.fresh (Nat.le_refl _))⟩
  exact ⟨by rw [List.length_reverse]; exact hz, its.reverse, r.reverse, ⟨_, Heap.get?_push_size _ rfl, rfl, _, rfl⟩⟩

set_option maxRecDepth 8000 in
theorem extend_tup (l : Addr) (items : Array Value) (n : Nat) (b : Addr) (items2 : Array Value) (n2 : Nat) (dd : Option Addr) (sl : Array (Option Value))
    (short : ¬(!items.isEmpty && Builtin.List.listTooLong (items.size + items2.size)) = true) (fit : items.size ≤ sizeLine)
    (fit2 : items.size + items2.size ≤ sizeLine + 1) :
    Meets (Builtin.«list.extend» ⟨[.ref l, .ref b], []⟩) (fun _ R s => s.heap.get? l = some { cls := .type "list", dict := none, data := .seq items n, slots := #[] } ∧
      s.heap.get? b = some { cls := .type "tuple", dict := dd, data := .seq items2 n2, slots := sl } ∧
      R (.ok (.ret Value.none)) { s with heap := s.heap.update l (Obj.mapSeq fun x => x ++ items2), toks := s.toks }) := by
  refine .of_wp fun prog w A R s h => ?_
  obtain ⟨hp, g, d, tk, os⟩ := s
  obtain ⟨hl, hb, h⟩ := h
  have f2 := AutoSeq1.sub_tuple_tuple
  have f3 := AutoSeq1.sub_list_list
  have f4 := AutoSeq1.sub_tuple_list
  have f5 := AutoSeq1.sub_list_tuple
  have whole : (items ++ items2).size ≤ sizeLine + 1 := by rw [Array.size_append]; exact fit2
  wp_walk using (wpAny_updateSeq hl rfl (hz := fit) (_hz' := whole)), AutoSeq1.wpAny_loadPart' hl, AutoSeq1.wpAny_loadPart' hb
  exact ⟨_, rfl, h⟩
/-- xs.extend(t), t a tuple -/
def rExtT (K : PySem.W.Frag) : V → List V → Hp → VK → Prop := fun x vs H Q => ∃ l b xs zs, x = .ref l ∧ vs = [.ref b] ∧ H l = some (.lst xs) ∧ H b = some (.tup zs) ∧
  xs.length + zs.length ≤ sizeLine ∧ Q .non (upd H l (.lst (xs ++ zs)))
theorem mt_extT : MtM X "list.extend" (rExtT X.K) := by
  intro pins s σ H x vs v us Q I rx rv h
  obtain ⟨l, b, xs, zs, rfl, rfl, hH, hB, hz, q⟩ := h
  cases rx
  obtain ⟨u, rfl, ru⟩ := rv.one
  cases ru
  obtain ⟨z, its, n, r, hl, e⟩ := I.lstM hH
  obtain ⟨z2, its2, r2, ⟨ob, ho, hc, n2, hd⟩⟩ := I.hok b _ hB
  have r2l := r2.length
  have fit : its.toArray.size + its2.toArray.size ≤ sizeLine := by
    rw [List.size_toArray, List.size_toArray]
    have := r.length
    omega
  have short : ¬ (!its.toArray.isEmpty && Builtin.List.listTooLong (its.toArray.size + its2.toArray.size)) = true := by
    rw [notLongL fit, Bool.and_false]
    exact Bool.false_ne_true
  obtain ⟨cls, dd, data, sl⟩ := ob
  simp only at hc hd
  subst hc hd
  refine call_meets F.slot_list_extend ⟨_, e, rfl⟩ F.entry_list_extend (F.args_list_extend_2 _ _)
    (extend_tup l its.toArray n b its2.toArray n2 dd sl short (by rw [List.size_toArray]; omega) (by omega)) ⟨e, ho, ?_⟩
  refine ⟨.non, _, I.lset (its' := its ++ its2) hH e (by simp) (r.append r2) ?_, rfl, q⟩
  rw [List.length_append]
  omega
/-- products of two factors of together less than a hundred million bits -/
def CMulB (i j : Int) : Prop := i.natAbs.log2 + j.natAbs.log2 < 100000000
theorem bits_le (x : Int) : Builtin.Int.intBits x ≤ x.natAbs.log2 + 1 := by
  unfold Builtin.Int.intBits
  split <;> omega
theorem CMulB.ok {i j : Int} (h : CMulB i j) : IntMulOk i j := by
  have h1 := bits_le i
  have h2 := bits_le j
  unfold CMulB at h
  intro z
  have z2 := (Bool.and_eq_true _ _ ▸ z : _ ∧ _).2
  unfold Builtin.Int.intTooBig at z2
  have z3 := of_decide_eq_true z2
  rw [show bitsLine = 134217728 by decide] at z3
  omega
theorem op_mulB : OpR X (binaryOp .Mult) (rI CMulB fun i j => .int (i * j)) := opI fun _ _ _ _ _ _ _ hc q => mul_int q hc.ok
end
end Gd

/-! # heaps but for one object; the state from which a law draws -/
namespace Gd
open PySem PySem.Spec PyProof.Rows L2

/-- all that was tracked is as it was, but for what stands at m -/
def Kp (m : Addr) (H H' : Hp) : Prop := ∀ b o, b ≠ m → H b = some o → H' b = some o
section
variable {H H1 H2 : Hp} {m p q : Addr} {o u : HO} {xs : List V}
theorem _root_.L2.Same.seqT {K : PySem.W.Frag} {H H' : Hp} {a : Addr} {xs : List V} (e : Same H H') (h : SqT K H a xs) : SqT K H' a xs := by
  rcases h with (h | ⟨o, h⟩) | h
  · exact .inl (.inl (e _ _ h))
  · exact .inl (.inr ⟨o, e _ _ h⟩)
  · exact .inr h
theorem Kp.refl : Kp m H H := fun _ _ _ h => h
theorem Kp.trans (a : Kp m H H1) (b : Kp m H1 H2) : Kp m H H2 := fun c o h z => b c o h (a c o h z)
theorem Kp.of (s : Same H H1) : Kp m H H1 := fun c o _ z => s c o z
theorem _root_.L2.Same.new (h : H p = none) (o : HO) : Same H (upd H p o) := fun b u e => by
  rw [upd_ne (ne_of_none e h)]
  exact e
theorem Kp.new (h : H p = none) (o : HO) : Kp m H (upd H p o) := Kp.of (Same.new h o)
theorem Kp.at (o : HO) : Kp m H (upd H m o) := fun b u h e => by
  rw [upd_ne h]
  exact e
theorem Kp.put (k : Kp m H H1) (o : HO) : Kp m H (upd H1 m o) := k.trans (Kp.at o)
theorem Kp.get (k : Kp m H H1) (h : H p = some o) (hm : H m = some u) (d : o ≠ u) : H1 p = some o := k p o (ne_of h hm d) h
/-- a new object changed after it was made -/
theorem _root_.L2.Same.put (s : Same H H1) (h : H p = none) (o : HO) : Same H (upd H1 p o) := fun b u e => by
  rw [upd_ne (ne_of_none e h)]
  exact s b u e
theorem Kp.put' (s : Kp m H H1) (h : H p = none) (o : HO) : Kp m H (upd H1 p o) := fun b u hb e => by
  rw [upd_ne (ne_of_none e h)]
  exact s b u hb e
theorem Kp.free (k : Kp m H H1) (h : H1 p = none) (hm : p ≠ m) : H p = none := by
  cases z : H p with
  | none => rfl
  | some o =>
    rw [k p o hm z] at h
    cases h
theorem ne_new (h : H p = some o) (n : H q = none) : p ≠ q := ne_of_none h n
end

/-! ## the state -/
def mk (l s : Int) (c : Addr) (p : Int) : List (Key × V) :=
  [(.inr "left", .int l), (.inr "seed", .int s), (.inr "cells", .ref c), (.inr "spot", .int p)]
section
variable {H : Hp} {m c : Addr} {l s p l' p' : Int}
theorem val_left : valV (mk l s c p) (.inr "left") = some (.int l) := rfl
theorem val_seed : valV (mk l s c p) (.inr "seed") = some (.int s) := rfl
theorem val_cells : valV (mk l s c p) (.inr "cells") = some (.ref c) := rfl
theorem val_spot : valV (mk l s c p) (.inr "spot") = some (.int p) := rfl
theorem put_left : putK (mk l s c p) (.inr "left") (.int l') = mk l' s c p := rfl
theorem put_spot : putK (mk l s c p) (.inr "spot") (.int p') = mk l s c p' := rfl
theorem merge_mk : mergeK [] (mk l s c p) = mk l s c p := rfl
end
end Gd

/-! # readings, step by step -/
namespace Gd
open PySem PySem.Spec PyProof.Rows L2
section
variable {K : PySem.W.Frag} {σ : L2.St} {H : Hp} {Q : VK} {QB : Bool → Hp → Prop} {QA : List V → Hp → Prop} {QO : Option Int → Hp → Prop} {QS : L2.St → Hp → Prop}
  {D : Ends} {te ta tb tc td ty tv tl th : TE} {tt uu : TT} {t u : TS} {ts tr : TA} {g : TG} {v x y : V} {a p : Addr} {xs ys : List V} {i j : Int} {n k : Nat} {b : Bool} {c : Prop} [Decidable c]
theorem rd_seq (h : t { D with nx := u D } σ H) : tSeq t u D σ H := h
theorem rd_next (h : D.nx σ H) : tNext D σ H := h
theorem rd_brk (h : D.bk σ H) : tBreak D σ H := h
theorem rd_cnt (h : D.ct σ H) : tCont D σ H := h
theorem rd_asg (h : te σ H fun v H1 => D.nx (σ.set n (some v)) H1) : tAsg te (gName n) D σ H := h
theorem rd_drop (h : te σ H fun _ H1 => D.nx σ H1) : tDrop te D σ H := h
theorem rd_ret (h : te σ H fun v H1 => D.rt v H1) : tRet te D σ H := h
theorem rd_retN (h : D.rt .non H) : tRetN D σ H := h
theorem rd_ifs (h : tt σ H fun b H1 => if b = true then t D σ H1 else u D σ H1) : tIfS tt t u D σ H := h
theorem rd_par (h : ts σ H fun vs H1 => ∃ v w, vs = [v, w] ∧ D.nx ((σ.set n (some v)).set k (some w)) H1) : tPar n k ts D σ H := h
theorem rd_pair {P : V → V → Prop} (h : P x y) : ∃ v w, [x, y] = [v, w] ∧ P v w := ⟨x, y, rfl, h⟩
theorem rd_var (e : σ[n]? = some (some v)) (h : Q v H) : tVar n σ H Q := ⟨v, e, h⟩
theorem rd_c (h : Q v H) : tC v σ H Q := h
theorem rd_op {r : R2} (h : ta σ H fun x H1 => tb σ H1 fun y H2 => r x y H2 Q) : tOp r ta tb σ H Q := h
theorem rd_un {r : V → Hp → VK → Prop} (h : ta σ H fun x H1 => r x H1 Q) : tUn r ta σ H Q := h
theorem rd_cb {r : List V → Hp → VK → Prop} (h : ts σ H fun vs H1 => r vs H1 Q) : tCB r ts σ H Q := h
theorem rd_call {sp : Sp} {dvs : List V} {E : XK} (h : ts σ H fun vs H1 => sp (vs ++ dvs) H1 Q E) : tCall sp dvs E ts σ H Q := h
theorem rd_nil (h : QA [] H) : tNil σ H QA := h
theorem rd_cons (h : ta σ H fun x H1 => tr σ H1 fun xs H2 => QA (x :: xs) H2) : tCons ta tr σ H QA := h
theorem rd_tup (h : ts σ H fun xs H1 => xs.length ≤ sizeLine ∧ ∀ p, H1 p = none → Q (.ref p) (upd H1 p (.tup xs))) : tTup ts σ H Q := h
theorem rd_lst (h : ts σ H fun xs H1 => xs.length ≤ sizeLine ∧ ∀ p, H1 p = none → Q (.ref p) (upd H1 p (.lst xs))) : tLst ts σ H Q := h
theorem rd_if (h : tt σ H fun c H1 => if c = true then ta σ H1 Q else tb σ H1 Q) : tIf tt ta tb σ H Q := h
theorem rd_test (h : te σ H fun x H1 => ∃ k, x = .bl k ∧ QB k H1) : tTest te σ H QB := h
theorem rd_tb (h : te σ H fun x H1 => ∃ k, x = .bl k ∧ QB k H1) : tB te σ H QB := h
theorem rd_bl {P : Bool → Prop} (h : P b) : ∃ k, V.bl b = .bl k ∧ P k := ⟨b, rfl, h⟩
theorem rd_and (h : tt σ H fun c H1 => if c = true then uu σ H1 QB else QB false H1) : tAnd tt uu σ H QB := h
theorem rd_or (h : tt σ H fun c H1 => if c = true then QB true H1 else uu σ H1 QB) : tOr tt uu σ H QB := h
theorem rd_not (h : tt σ H fun c H1 => QB (!c) H1) : tNot tt σ H QB := h
theorem rd_andV (h : ta σ H fun x H1 => ∃ c, x = .bl c ∧ if c = true then tb σ H1 Q else Q (.bl false) H1) : tAndV ta tb σ H Q := h
theorem rd_orV (h : ta σ H fun x H1 => ∃ c, x = .bl c ∧ if c = true then Q (.bl true) H1 else tb σ H1 Q) : tOrV ta tb σ H Q := h
theorem rd_notV (h : ta σ H fun x H1 => ∃ c, x = .bl c ∧ Q (.bl (!c)) H1) : tNotV ta σ H Q := h
theorem rd_sl {r : V → Option Int → Option Int → Hp → VK → Prop} {tl th : TO} (h : te σ H fun x H1 => tl σ H1 fun l H2 => th σ H2 fun u H3 => r x l u H3 Q) : tSl r te tl th σ H Q := h
theorem rd_nopart (h : QO none H) : tNoPart σ H QO := h
theorem rd_part (h : te σ H fun x H1 => ∃ i, x = .int i ∧ QO (some i) H1) : tPart te σ H QO := h
theorem rd_int {P : Int → Prop} (h : P i) : ∃ k, V.int i = .int k ∧ P k := ⟨i, rfl, h⟩
theorem rd_dget (h : td σ H fun x H1 => ty σ H1 fun y H2 => ∃ a v, x = .ref a ∧ DGet H2 a y (some v) ∧ Q v H2) : tDGet td ty σ H Q := h
theorem rd_dgetK {P : V → Prop} {kvs : List (Key × V)} {z : Str} (hm : H a = some (.dK kvs)) (hv : valV kvs (.inr z) = some v) (h : P v) :
    ∃ b w, V.ref a = .ref b ∧ DGet H b (.str z) (some w) ∧ P w := ⟨a, v, rfl, .inl ⟨kvs, .inr z, .inl hm, rfl, hv.symm⟩, h⟩
theorem rd_dput (h : tv σ H fun v H1 => td σ H1 fun x H2 => ty σ H2 fun y H3 => ∃ a H4, x = .ref a ∧ DPut H3 a y v H4 ∧ D.nx σ H4) : sDPut td ty tv D σ H := h
theorem rd_dputK {P : Hp → Prop} {kvs kvs' : List (Key × V)} {z : Str} (hm : H a = some (.dK kvs)) (hv : putK kvs (.inr z) v = kvs') (hl : kvs.length < 1000000) (h : P (upd H a (.dK kvs'))) :
    ∃ b H4, V.ref a = .ref b ∧ DPut H b (.str z) v H4 ∧ P H4 := ⟨a, _, rfl, .inl ⟨kvs, .inr z, hm, rfl, Nat.lt_of_lt_of_le hl (by decide), rfl⟩, by rw [hv]; exact h⟩
theorem rd_i0 {f : Int → Int → V} (h : Q (f i j) H) : rI0 f (.int i) (.int j) H Q := ⟨i, j, rfl, rfl, h⟩
theorem rd_i {C : Int → Int → Prop} {f : Int → Int → V} (hc : C i j) (h : Q (f i j) H) : rI C f (.int i) (.int j) H Q := ⟨i, j, rfl, rfl, hc, h⟩
theorem rd_u {f : Int → V} (h : Q (f i) H) : rU f (.int i) H Q := ⟨i, rfl, h⟩
theorem rd_eq (hs : scal x y = true) (h : Q (.bl (decide (x = y))) H) : rEq x y H Q := ⟨hs, h⟩
theorem rd_ne (hs : scal x y = true) (h : Q (.bl (!decide (x = y))) H) : rNe x y H Q := ⟨hs, h⟩
theorem rd_intI {A : Int → Prop} {B : Prop} (h : A i) : (∃ k, [V.int i] = [V.int k] ∧ A k) ∨ B := .inl ⟨i, rfl, h⟩
theorem rd_ixL (hs : SqL K H a xs) (hv : atI xs i = some v) (h : Q v H) : rIxL K (.ref a) (.int i) H Q := ⟨a, xs, i, v, rfl, rfl, hs, hv, h⟩
theorem rd_ixT (hs : SqT K H a xs) (hv : atI xs i = some v) (h : Q v H) : rIxT K (.ref a) (.int i) H Q := ⟨a, xs, i, v, rfl, rfl, hs, hv, h⟩
theorem rd_slL {lo hi : Option Int} (hs : SqL K H a xs) (h : ∀ p, H p = none → Q (.ref p) (upd H p (.lst (cutV xs lo hi)))) : rSlL K (.ref a) lo hi H Q := ⟨a, xs, rfl, hs, h⟩
theorem rd_cat (hl : H a = some (.lst xs)) (hb : H p = some (.lst ys)) (hz : xs.length + ys.length ≤ 1000000) (h : ∀ q, H q = none → Q (.ref q) (upd H q (.lst (xs ++ ys)))) :
    rCat (.ref a) (.ref p) H Q := ⟨a, p, xs, ys, rfl, rfl, hl, hb, Nat.le_trans hz (by decide), h⟩
theorem rd_len {A : List V → Prop} (hs : SqL K H a xs ∨ SqT K H a xs) (h : A xs) : ∃ p ys, [V.ref a] = [V.ref p] ∧ (SqL K H p ys ∨ SqT K H p ys) ∧ A ys := ⟨a, xs, rfl, hs, h⟩
theorem rd_true (h : c) {A B : Prop} (q : A) : if decide c = true then A else B := by rw [decide_eq_true h]; exact iteT q
theorem rd_false (h : ¬ c) {A B : Prop} (q : B) : if decide c = true then A else B := by rw [decide_eq_false h]; exact iteF q
/-- a test of which nothing is known: two ways -/
theorem rd_two {A B : Prop} (h1 : c → A) (h2 : ¬ c → B) : if decide c = true then A else B := by
  by_cases h : c
  · exact rd_true h (h1 h)
  · exact rd_false h (h2 h)
theorem sqL (h : H a = some (.lst xs)) : SqL K H a xs := .inl (.inl h)
theorem sqT (h : H a = some (.tup xs)) : SqT K H a xs := .inl (.inl h)
end
theorem atI_in {α : Type} {xs : List α} {i : Int} (h0 : 0 ≤ i) (h1 : i < (xs.length : Int)) : ∃ v, atI xs i = some v ∧ xs[i.toNat]? = some v ∧ v ∈ xs := by
  obtain ⟨j, rfl⟩ : ∃ j : Nat, i = (j : Int) := ⟨i.toNat, by omega⟩
  have hj : j < xs.length := by omega
  refine ⟨xs[j], atI_nat (List.getElem?_eq_getElem hj), ?_, List.getElem_mem hj⟩
  show xs[j]? = some xs[j]
  exact List.getElem?_eq_getElem hj
theorem atI_mod {α : Type} {xs : List α} (p : Int) (h : xs ≠ []) : ∃ v, atI xs (p % (xs.length : Int)) = some v ∧ v ∈ xs := by
  have h0 : 0 < xs.length := List.length_pos_iff.mpr h
  obtain ⟨v, e, _, m⟩ := atI_in (xs := xs) (Int.emod_nonneg p (b := (xs.length : Int)) (by omega)) (Int.emod_lt_of_pos p (by omega))
  exact ⟨v, e, m⟩
section
variable {X : Cx} (K : PySem.W.Frag)
/-- the rules that speak of the written part, with its name given -/
theorem ix_tupK (h : X.K = K := by rfl) : IxR X (rIxT K) := h ▸ ix_tup
theorem ix_listK (h : X.K = K := by rfl) : IxR X (rIxL K) := h ▸ ix_list
theorem in_seqK (h : X.K = K := by rfl) : OpR X (compareOp .In) (rIn K false) := h ▸ op_in_seq
theorem notIn_seqK (h : X.K = K := by rfl) : OpR X (compareOp .NotIn) (rIn K true) := h ▸ op_notIn_seq
theorem len_seqK (h : X.K = K := by rfl) : CallR X (.builtin "len") (fun xs H Q => ∃ p ys, xs = [.ref p] ∧ (SqL K H p ys ∨ SqT K H p ys) ∧ Q (.int ys.length) H) := h ▸ call_len_seq
theorem sl_listK (h : X.K = K := by rfl) : SlR X (rSlL K) := h ▸ sl_list
theorem sl_tupK (h : X.K = K := by rfl) : SlR X (rSlT K) := h ▸ sl_tup
theorem tuple_ofK (h : X.K = K := by rfl) : CallR X (.type "tuple") (fun xs H Q => ∃ p ys, xs = [.ref p] ∧ ((SqL K H p ys ∧ ∀ l, H l = none → Q (.ref l) (upd H l (.tup ys))) ∨ (SqT K H p ys ∧ Q (.ref p) H))) := h ▸ call_tuple_of
theorem list_ofK (h : X.K = K := by rfl) : CallR X (.type "list") (fun xs H Q => ∃ p ys, xs = [.ref p] ∧ (SqL K H p ys ∨ SqT K H p ys) ∧ ∀ l, H l = none → Q (.ref l) (upd H l (.lst ys))) := h ▸ call_list_of
theorem sumK (hc : X.calm = true := by rfl) (h : X.K = K := by rfl) : CallR X (.builtin "sum") (rSum K) := h ▸ cr_sum hc
theorem allK (hc : X.calm = true := by rfl) (h : X.K = K := by rfl) : CallR X (.builtin "all") (rAll K) := h ▸ cr_all hc
theorem eqDK (hu : X.A.units + 64 < cLine) (h : X.K = K := by rfl) : OpR X (compareOp .Eq) (rEqD K) := h ▸ op_eqD hu
theorem neDK (hu : X.A.units + 64 < cLine) (h : X.K = K := by rfl) : OpR X (compareOp .NotEq) (rNeD K) := h ▸ op_neD hu
theorem reprK {k : Nat} (gd : X.A.guards = some []) (hr : Room k X.A) (h : X.K = K := by rfl) : CallR X (.builtin "repr") (rRepr K) := h ▸ call_reprD gd hr
end
end Gd

/-! # loops and comprehensions -/
namespace Gd
open PySem PySem.Spec PyProof.Rows L2 RZ
section
variable {K : PySem.W.Frag} {σ : L2.St} {H H1 : Hp} {Q : VK} {D : Ends} {te tl : TE} {tt : TT} {tb : TS} {ts : TA} {wi : TI} {R : It → Hp → Prop} {g : TG} {vs : List Nat} {a b : Addr} {xs ys : List V} {j i1 i2 n : Nat}
theorem rd_for (h : wi σ H fun J H1 => ∃ W : Nat → Nat → L2.St → Hp → Prop, (∃ m, W 0 m σ H1) ∧ ∀ i m σ H, W i m σ H →
    (J.stop i H ∧ D.nx σ H) ∨ (J.go i H ∧ ∃ N : L2.St → Hp → Prop, (∀ σ' H', N σ' H' → ∃ m', m' < m ∧ W (i + 1) m' σ' H') ∧
      ∀ x H', J.yld i H x H' → g x σ H' fun σ2 H2 => tb { D with nx := N, ct := N, bk := D.nx } σ2 H2)) : tFor wi g tb D σ H := h
theorem rd_lc (h : wi σ H fun J H1 => ∀ D, H1 D = none → ∃ W : Nat → Nat → Hp → Prop, (∃ m, W 0 m (upd H1 D (.lst []))) ∧ ∀ i m H, W i m H →
    (J.stop i H ∧ Q (.ref D) H) ∨ (J.go i H ∧ ∃ Nx : Hp → Prop, (∀ H', Nx H' → ∃ m', m' < m ∧ W (i + 1) m' H') ∧
      ∀ x H', J.yld i H x H' → g x (wipe σ vs) H' fun σ2 H2 => wipe σ2 vs = wipe σ vs ∧ tt σ2 H2 fun b H3 =>
        if b = true then te σ2 H3 fun y H4 => ∃ acc, H4 D = some (.lst acc) ∧ acc.length < sizeLine ∧ Nx (upd H4 D (.lst (acc ++ [y]))) else Nx H3)) :
    tLc wi g tt te vs σ H Q := h
theorem rd_iL (h : tl σ H fun x H1 => ∃ a, x = .ref a ∧ (∃ xs, SqL K H1 a xs) ∧ R (Itl K a) H1) : iList K tl σ H R := h
theorem rd_iT (h : tl σ H fun x H1 => ∃ a, x = .ref a ∧ (∃ xs, SqT K H1 a xs) ∧ R (Itt K a) H1) : iTup K tl σ H R := h
theorem rd_iR1 (h : ts σ H fun vs H1 => ∃ j : Int, vs = [.int j] ∧ -(2 ^ 62) ≤ j ∧ j < 2 ^ 62 ∧ R (Itr 0 j.toNat) H1) : iRng1 ts σ H R := h
theorem rd_iZ (h : ts σ H fun vs H1 => ∃ a b xs ys, vs = [.ref a, .ref b] ∧ ((SqL K H1 a xs ∧ SqL K H1 b ys ∧ R (Itz K a b) H1) ∨ (SqT K H1 a xs ∧ SqT K H1 b ys ∧ R (ItzT K a b) H1))) : iZipA K ts σ H R := h
theorem rd_atL {P : Addr → Prop} (h : SqL K H a xs) (q : P a) : ∃ b, V.ref a = .ref b ∧ (∃ xs, SqL K H b xs) ∧ P b := ⟨a, rfl, ⟨xs, h⟩, q⟩
theorem rd_atT {P : Addr → Prop} (h : SqT K H a xs) (q : P a) : ∃ b, V.ref a = .ref b ∧ (∃ xs, SqT K H b xs) ∧ P b := ⟨a, rfl, ⟨xs, h⟩, q⟩
theorem rd_atR {P : Int → Prop} {i : Int} (h0 : 0 ≤ i) (h1 : i ≤ 1000000) (q : P i) : ∃ j : Int, [V.int i] = [.int j] ∧ -(2 ^ 62) ≤ j ∧ j < 2 ^ 62 ∧ P j := ⟨i, rfl, by omega, by omega, q⟩
theorem rd_atZ {P P' : Addr → Addr → Prop} (h : SqT K H a xs) (h' : SqT K H b ys) (q : P' a b) :
    ∃ c d zs ws, [V.ref a, V.ref b] = [.ref c, .ref d] ∧ ((SqL K H c zs ∧ SqL K H d ws ∧ P c d) ∨ (SqT K H c zs ∧ SqT K H d ws ∧ P' c d)) := ⟨a, b, xs, ys, rfl, .inr ⟨h, h', q⟩⟩
theorem rd_yes {QB : Bool → Hp → Prop} (h : QB true H) : tYes σ H QB := h
theorem rd_gname {v : V} {QS : L2.St → Hp → Prop} (h : QS (σ.set n (some v)) H) : gName n v σ H QS := h
theorem rd_gtup {QS : L2.St → Hp → Prop} {t : TGs} (h : SqT K H a xs) (hn : xs.length = n) (q : t xs σ H QS) : gTup K n t (.ref a) σ H QS := ⟨a, xs, rfl, h, hn, q⟩
theorem rd_gcons {QS : L2.St → Hp → Prop} {t : TG} {u : TGs} {v : V} {r : List V} (q : t v σ H fun σ' H' => u r σ' H' QS) : gCons t u (v :: r) σ H QS := ⟨v, r, rfl, q⟩
theorem rd_gnil {QS : L2.St → Hp → Prop} (q : QS σ H) : gNil [] σ H QS := ⟨rfl, q⟩
theorem rd_tyL {P : Prop} (h : SqL K H a xs) (q : P) : tyV K "list" (.ref a) H ∧ P := ⟨.inl ⟨rfl, _, h⟩, q⟩

theorem rd_asgG (h : te σ H fun v H1 => g v σ H1 D.nx) : tAsg te g D σ H := h
theorem rd_ii {P : Int → Int → Prop} {i j : Int} (h : P i j) : ∃ k l, [V.int i, V.int j] = [.int k, .int l] ∧ P k l := ⟨i, j, rfl, h⟩
theorem max_nat (a b : Nat) : (if (b : Int) > (a : Int) then (b : Int) else (a : Int)) = ((max a b : Nat) : Int) := by
  split <;> omega
theorem min_nat (a b : Nat) : (if (b : Int) < (a : Int) then (b : Int) else (a : Int)) = ((min a b : Nat) : Int) := by
  split <;> omega
theorem rd_disp {trs : List (TE × TE)} (h : ∀ p, H p = none → tPairs trs σ (upd H p (.dK [])) fun ps H2 => H2 p = some (.dK []) ∧
    ∃ kvs : List (Key × V), ps = kvs.map (fun kv => (kV kv.1, kv.2)) ∧ kvs.length ≤ 15 ∧ Q (.ref p) (upd H2 p (.dK (mergeK [] kvs)))) : tDisp trs σ H Q := h
theorem rd_pcons {tk tv : TE} {r : List (TE × TE)} {QP : List (V × V) → Hp → Prop} (h : tk σ H fun x H1 => tv σ H1 fun y H2 => tPairs r σ H2 fun ps H3 => QP ((x, y) :: ps) H3) :
    tPairs ((tk, tv) :: r) σ H QP := h
theorem rd_pnil {QP : List (V × V) → Hp → Prop} (h : QP [] H) : tPairs [] σ H QP := h
theorem cut_ints (ns : List Int) (lo hi : Option Int) : ∃ ms : List Int, cutV (ns.map V.int) lo hi = ms.map V.int ∧ ms.length ≤ ns.length := by
  refine ⟨(ns.drop (HT.sIx ns.length 0 lo)).take (HT.sIx ns.length ns.length hi - HT.sIx ns.length 0 lo), ?_, ?_⟩
  · unfold cutV
    rw [List.length_map, List.map_take, List.map_drop]
  · rw [List.length_take, List.length_drop]
    omega
open Evl in
theorem given_ints (n : Nat) (f : Nat → Bool) (h : Nat → Int) : given n f (fun i => V.int (h i)) = (((List.range n).filter f).map h).map V.int := by
  unfold given
  rw [List.map_map]
  rfl
theorem forL {Nx : L2.St → Hp → Prop} {Rt : VK} (Pv : Nat → L2.St → Hp → Prop) (h0 : Pv 0 σ H) (hl : ∀ i σ H, i ≤ xs.length → Pv i σ H → SqL K H a xs)
    (hs : ∀ i x σ H, xs[i]? = some x → Pv i σ H → g x σ H fun σ2 H2 => tb { nx := Pv (i + 1), rt := Rt, ct := Pv (i + 1), bk := Nx } σ2 H2) (hd : ∀ σ H, Pv xs.length σ H → Nx σ H) :
    ∃ W : Nat → Nat → L2.St → Hp → Prop, (∃ m, W 0 m σ H) ∧ ∀ i m σ H, W i m σ H → ((Itl K a).stop i H ∧ Nx σ H) ∨ ((Itl K a).go i H ∧ ∃ N : L2.St → Hp → Prop,
      (∀ σ' H', N σ' H' → ∃ m', m' < m ∧ W (i + 1) m' σ' H') ∧ ∀ x H', (Itl K a).yld i H x H' → g x σ H' fun σ2 H2 => tb { nx := N, rt := Rt, bk := Nx, ct := N } σ2 H2) :=
  for_list (D := { nx := Nx, rt := Rt }) Pv h0 hl hs hd
theorem forT {Nx : L2.St → Hp → Prop} {Rt : VK} (Pv : Nat → L2.St → Hp → Prop) (h0 : Pv 0 σ H) (hl : ∀ i σ H, i ≤ xs.length → Pv i σ H → SqT K H a xs)
    (hs : ∀ i x σ H, xs[i]? = some x → Pv i σ H → g x σ H fun σ2 H2 => tb { nx := Pv (i + 1), rt := Rt, ct := Pv (i + 1), bk := Nx } σ2 H2) (hd : ∀ σ H, Pv xs.length σ H → Nx σ H) :
    ∃ W : Nat → Nat → L2.St → Hp → Prop, (∃ m, W 0 m σ H) ∧ ∀ i m σ H, W i m σ H → ((Itt K a).stop i H ∧ Nx σ H) ∨ ((Itt K a).go i H ∧ ∃ N : L2.St → Hp → Prop,
      (∀ σ' H', N σ' H' → ∃ m', m' < m ∧ W (i + 1) m' σ' H') ∧ ∀ x H', (Itt K a).yld i H x H' → g x σ H' fun σ2 H2 => tb { nx := N, rt := Rt, bk := Nx, ct := N } σ2 H2) :=
  for_tup (D := { nx := Nx, rt := Rt }) Pv h0 hl hs hd
theorem forR {Nx : L2.St → Hp → Prop} {Rt : VK} {lo : Int} (Pv : Nat → L2.St → Hp → Prop) (h0 : Pv 0 σ H) 
    (hs : ∀ i σ H, i < n → Pv i σ H → g (.int (lo + i)) σ H fun σ2 H2 => tb { nx := Pv (i + 1), rt := Rt, ct := Pv (i + 1), bk := Nx } σ2 H2) (hd : ∀ σ H, Pv n σ H → Nx σ H) :
    ∃ W : Nat → Nat → L2.St → Hp → Prop, (∃ m, W 0 m σ H) ∧ ∀ i m σ H, W i m σ H → ((Itr lo n).stop i H ∧ Nx σ H) ∨ ((Itr lo n).go i H ∧ ∃ N : L2.St → Hp → Prop,
      (∀ σ' H', N σ' H' → ∃ m', m' < m ∧ W (i + 1) m' σ' H') ∧ ∀ x H', (Itr lo n).yld i H x H' → g x σ H' fun σ2 H2 => tb { nx := N, rt := Rt, bk := Nx, ct := N } σ2 H2) :=
  for_range (D := { nx := Nx, rt := Rt }) Pv h0 hs hd
theorem walk_zipT {n : Nat} (hn : n = min xs.length ys.length) : Walk (ItzT K a b) n (fun H => SqT K H a xs ∧ SqT K H b ys) (YPair (fun i => xs[i]?) (fun i => ys[i]?)) := by
  subst hn
  refine ⟨?_, ?_, ?_⟩
  · intro i _ hi q
    have h1 : i < xs.length := by omega
    have h2 : i < ys.length := by omega
    exact ⟨xs, ys, xs[i], ys[i], q.1, q.2, by simp [h1], by simp [h2]⟩
  · intro _ q
    exact ⟨xs, ys, q.1, q.2, by omega⟩
  · intro i H v H' _ q y
    obtain ⟨T, x, z, h1, h2, h3, h4, h5⟩ := y
    exact ⟨T, x, z, h1, h2, h3, h4 xs q.1, h5 ys q.2⟩

open Evl in
/-- a comprehension whose turns change nothing that stood: the turn's item is src i, kept if f i, giving v i -/
theorem lc_src {J : It} {G : Hp → Prop} {Y : Nat → Hp → V → Hp → Prop} {Dl : Addr} {Qd : Hp → Prop} (w : Walk J n G Y) (src : Nat → V)
    (hy : ∀ i H x H', i < n → Y i H x H' → H' = H ∧ x = src i) (f : Nat → Bool) (v : Nat → V) (hn : n ≤ 1000000) (hD : H1 Dl = none)
    (hG : ∀ H', Same H1 H' → G H') (hw : ∀ x, wipe ((wipe σ vs).set j (some x)) vs = wipe σ vs)
    (ht : ∀ i H' (R : Bool → Hp → Prop), i < n → Same H1 H' → R (f i) H' → tt ((wipe σ vs).set j (some (src i))) H' R)
    (he : ∀ i H' (R : VK), i < n → f i = true → Same H1 H' → (∀ H'', Same H' H'' → R (v i) H'') → te ((wipe σ vs).set j (some (src i))) H' R)
    (hd : ∀ H', Same H1 H' → H' Dl = some (.lst (given n f v)) → Qd H') :
    ∃ W : Nat → Nat → Hp → Prop, (∃ m, W 0 m (upd H1 Dl (.lst []))) ∧ ∀ i m H, W i m H →
      (J.stop i H ∧ Qd H) ∨ (J.go i H ∧ ∃ Nx : Hp → Prop, (∀ H', Nx H' → ∃ m', m' < m ∧ W (i + 1) m' H') ∧
        ∀ x H', J.yld i H x H' → gName j x (wipe σ vs) H' fun σ2 H2 => wipe σ2 vs = wipe σ vs ∧ tt σ2 H2 fun b H3 =>
          if b = true then te σ2 H3 fun y H4 => ∃ acc, H4 Dl = some (.lst acc) ∧ acc.length < sizeLine ∧ Nx (upd H4 Dl (.lst (acc ++ [y]))) else Nx H3) := by
  refine lc_it w (fun i H' => Same H1 H' ∧ H' Dl = some (.lst (given i f v))) ⟨Same.new hD _, upd_same⟩ (fun i H' _ p => hG H' p.1) ?_ fun H' p => hd H' p.1 p.2
  intro i x H H' hi p y
  obtain ⟨rfl, rfl⟩ := hy i H x H' hi y
  refine ⟨hw _, ht i H' _ hi p.1 ?_⟩
  cases hf : f i with
  | false =>
    refine iteF ⟨p.1, ?_⟩
    rw [given_no hf]
    exact p.2
  | true =>
    refine iteT (he i H' _ hi hf p.1 fun H'' s => ⟨given i f v, s _ _ p.2, ?_, ?_, ?_⟩)
    · have := given_len i f v
      rw [sizeLine_eq]
      omega
    · exact Same.put (p.1.trans s) hD _
    · rw [given_yes hf]
      exact upd_same
open Evl in
/-- the same over zip of two tuples -/
theorem lc_zip {Dl : Addr} {Qd : Hp → Prop} (v : Nat → V) (hl : xs.length = ys.length) (hn : xs.length ≤ 1000000) (hD : H1 Dl = none)
    (hx : SqT K H1 a xs) (hy : SqT K H1 b ys) (hw : ∀ x y, wipe (((wipe σ vs).set i1 (some x)).set i2 (some y)) vs = wipe σ vs)
    (he : ∀ i x y H' (R : VK), xs[i]? = some x → ys[i]? = some y → Same H1 H' → (∀ H'', Same H' H'' → R (v i) H'') →
      te (((wipe σ vs).set i1 (some x)).set i2 (some y)) H' R)
    (hd : ∀ H', Same H1 H' → H' Dl = some (.lst ((List.range xs.length).map v)) → Qd H') :
    ∃ W : Nat → Nat → Hp → Prop, (∃ m, W 0 m (upd H1 Dl (.lst []))) ∧ ∀ i m H, W i m H →
      ((ItzT K a b).stop i H ∧ Qd H) ∨ ((ItzT K a b).go i H ∧ ∃ Nx : Hp → Prop, (∀ H', Nx H' → ∃ m', m' < m ∧ W (i + 1) m' H') ∧
        ∀ x H', (ItzT K a b).yld i H x H' → gTup K 2 (gCons (gName i1) (gCons (gName i2) gNil)) x (wipe σ vs) H' fun σ2 H2 => wipe σ2 vs = wipe σ vs ∧ tYes σ2 H2 fun b H3 =>
          if b = true then te σ2 H3 fun y H4 => ∃ acc, H4 Dl = some (.lst acc) ∧ acc.length < sizeLine ∧ Nx (upd H4 Dl (.lst (acc ++ [y]))) else Nx H3) := by
  refine lc_it (walk_zipT (n := xs.length) (xs := xs) (ys := ys) (by omega)) (fun i H' => Same H1 H' ∧ H' Dl = some (.lst ((List.range i).map v)))
    ⟨Same.new hD _, upd_same⟩ (fun i H' _ p => ⟨p.1.seqT hx, p.1.seqT hy⟩) ?_ fun H' p => hd H' p.1 p.2
  rintro i z H H' hi ⟨s, e⟩ ⟨T, x, y, rfl, nT, rfl, ex, ey⟩
  have s' : Same H1 (upd H T (.tup [x, y])) := s.trans (Same.new nT _)
  have nDT : Dl ≠ T := ne_of_none e nT
  refine rd_gtup (xs := [x, y]) (sqT upd_same) rfl (rd_gcons (rd_gname (rd_gcons (rd_gname (rd_gnil ⟨hw x y, ?_⟩)))))
  refine rd_yes (iteT (he i x y _ _ ex ey s' fun H'' s'' => ⟨(List.range i).map v, s'' _ _ (by rw [upd_ne nDT]; exact e), ?_, ?_, ?_⟩))
  · rw [List.length_map, List.length_range, sizeLine_eq]
    omega
  · exact Same.put (s'.trans s'') hD _
  · rw [upd_same, List.range_succ, List.map_append]
    rfl
end
end Gd

/-! # sayings -/
namespace Gd
open PySem PySem.Spec PyProof.Rows L2

inductive Mk6 where
  | plus | times | leads | and | or | same
def Mk6.str : Mk6 → Str
  | .plus => "plus" | .times => "times" | .leads => "leads" | .and => "and" | .or => "or" | .same => "same"
inductive Say where
  | unk (x : Str) | yes | no | not (a : Say) | bin (k : Mk6) (a b : Say)
def Say.head : Say → Str
  | .unk _ => "unknown" | .yes => "yes" | .no => "no" | .not _ => "not" | .bin k _ _ => k.str
def Say.kids : Say → List Say
  | .unk _ => [] | .yes => [] | .no => [] | .not a => [a] | .bin _ a b => [a, b]
def Say.isUnk : Say → Bool
  | .unk _ => true | _ => false
def Say.depth : Say → Nat
  | .unk _ => 0 | .yes => 0 | .no => 0 | .not a => a.depth + 1 | .bin _ a b => max a.depth b.depth + 1
def Say.words : Say → Nat
  | .unk _ => 1 | .yes => 1 | .no => 1 | .not a => a.words + 1 | .bin _ a b => a.words + b.words + 1
def Say.marks : Say → Nat
  | .unk _ => 0 | .yes => 0 | .no => 0 | .not a => a.marks | .bin _ a b => a.marks + b.marks + 1
/-- the names, as often as they stand there -/
def Say.leaves : Say → List Str
  | .unk x => [x] | .yes => [] | .no => [] | .not a => a.leaves | .bin _ a b => a.leaves ++ b.leaves
def Say.namesIn : Say → List Str → List Str
  | .unk x, f => if x ∈ f then f else f ++ [x]
  | .yes, f => f | .no, f => f | .not a, f => a.namesIn f | .bin _ a b, f => b.namesIn (a.namesIn f)
/-- all words in writing order -/
def Say.all : Say → List Say
  | .unk x => [.unk x] | .yes => [.yes] | .no => [.no] | .not a => .not a :: a.all | .bin k a b => .bin k a b :: (a.all ++ b.all)
def SayAt (H : Hp) : Say → V → Prop
  | .unk x, v => ∃ p, v = .ref p ∧ H p = some (.tup [.str "unknown", .str x])
  | .yes, v => ∃ p, v = .ref p ∧ H p = some (.tup [.str "yes"])
  | .no, v => ∃ p, v = .ref p ∧ H p = some (.tup [.str "no"])
  | .not a, v => ∃ p u, v = .ref p ∧ H p = some (.tup [.str "not", u]) ∧ SayAt H a u
  | .bin k a b, v => ∃ p u w, v = .ref p ∧ H p = some (.tup [.str k.str, u, w]) ∧ SayAt H a u ∧ SayAt H b w
/-- tuples stay -/
def Tk (H H' : Hp) : Prop := ∀ p xs, H p = some (.tup xs) → H' p = some (.tup xs)
section
variable {H H' H1 : Hp} {s : Say} {v : V} {m : Addr}
theorem Tk.refl : Tk H H := fun _ _ h => h
theorem Tk.trans (a : Tk H H1) (b : Tk H1 H') : Tk H H' := fun p xs h => b p xs (a p xs h)
theorem Tk.of (h : Same H H') : Tk H H' := fun p xs e => h _ _ e
theorem Tk.kp {kvs : List (Key × V)} (h : Kp m H H') (e : H m = some (.dK kvs)) : Tk H H' := fun p xs q => h.get q e (fun z => nomatch z)
theorem SayAt.keep (t : Tk H H') : ∀ {s : Say} {v : V}, SayAt H s v → SayAt H' s v
  | .unk x, v, ⟨p, e, h⟩ => ⟨p, e, t _ _ h⟩
  | .yes, v, ⟨p, e, h⟩ => ⟨p, e, t _ _ h⟩
  | .no, v, ⟨p, e, h⟩ => ⟨p, e, t _ _ h⟩
  | .not a, v, ⟨p, u, e, h, ha⟩ => ⟨p, u, e, t _ _ h, SayAt.keep t ha⟩
  | .bin k a b, v, ⟨p, u, w, e, h, ha, hb⟩ => ⟨p, u, w, e, t _ _ h, SayAt.keep t ha, SayAt.keep t hb⟩
/-- sayings at values, one by one -/
inductive SaysAt (H : Hp) : List Say → List V → Prop
  | nil : SaysAt H [] []
  | cons {s : Say} {v : V} {ss : List Say} {vs : List V} : SayAt H s v → SaysAt H ss vs → SaysAt H (s :: ss) (v :: vs)
theorem SaysAt.keep (t : Tk H H') : ∀ {ss : List Say} {vs : List V}, SaysAt H ss vs → SaysAt H' ss vs
  | _, _, .nil => .nil
  | _, _, .cons a b => .cons (SayAt.keep t a) (SaysAt.keep t b)
theorem SaysAt.length : ∀ {ss : List Say} {vs : List V}, SaysAt H ss vs → ss.length = vs.length
  | _, _, .nil => rfl
  | _, _, .cons a b => congrArg Nat.succ b.length
theorem SaysAt.get : ∀ {ss : List Say} {vs : List V} {i : Nat} {v : V}, SaysAt H ss vs → vs[i]? = some v → ∃ s, ss[i]? = some s ∧ SayAt H s v
  | _, _, i, v, .nil, e => by simp at e
  | _, _, 0, v, .cons a b, e => by
    obtain rfl := Option.some.inj e
    exact ⟨_, rfl, a⟩
  | _, _, i + 1, v, .cons a b, e => b.get (i := i) e
theorem SaysAt.append : ∀ {ss tt : List Say} {vs ws : List V}, SaysAt H ss vs → SaysAt H tt ws → SaysAt H (ss ++ tt) (vs ++ ws)
  | _, _, _, _, .nil, b => b
  | _, _, _, _, .cons a r, b => .cons a (r.append b)
/-- the tuple of a saying -/
theorem SayAt.node : ∀ {s : Say} {v : V}, SayAt H s v → ∃ p items, v = .ref p ∧ H p = some (.tup (.str s.head :: items)) ∧
    ((∃ x, s = .unk x ∧ items = [.str x]) ∨ (s.isUnk = false ∧ SaysAt H s.kids items))
  | .unk x, v, ⟨p, e, h⟩ => ⟨p, _, e, h, .inl ⟨x, rfl, rfl⟩⟩
  | .yes, v, ⟨p, e, h⟩ => ⟨p, _, e, h, .inr ⟨rfl, .nil⟩⟩
  | .no, v, ⟨p, e, h⟩ => ⟨p, _, e, h, .inr ⟨rfl, .nil⟩⟩
  | .not a, v, ⟨p, u, e, h, ha⟩ => ⟨p, _, e, h, .inr ⟨rfl, .cons ha .nil⟩⟩
  | .bin k a b, v, ⟨p, u, w, e, h, ha, hb⟩ => ⟨p, _, e, h, .inr ⟨rfl, .cons ha (.cons hb .nil)⟩⟩
theorem kid_depth : ∀ {s t : Say}, t ∈ s.kids → t.depth < s.depth
  | .not a, t, h => by
    obtain rfl := List.mem_singleton.mp h
    exact Nat.lt_succ_self _
  | .bin k a b, t, h => by
    have e : t = a ∨ t = b := by simpa [Say.kids] using h
    show t.depth < max a.depth b.depth + 1
    rcases e with rfl | rfl <;> omega
theorem kids_le (s : Say) : s.kids.length ≤ 2 := by cases s <;> simp [Say.kids]
theorem mk6_unk : ∀ k : Mk6, ¬ V.str k.str = V.str "unknown" := by
  intro k
  cases k <;> decide +kernel
theorem mk6_not : ∀ k : Mk6, ¬ V.str k.str = V.str "not" := by
  intro k
  cases k <;> decide +kernel
theorem head_unk {s : Say} (h : s.isUnk = false) : ¬ V.str s.head = V.str "unknown" := by
  cases s with
  | unk x => cases h
  | yes => exact (by decide +kernel : ¬ V.str "yes" = V.str "unknown")
  | no => exact (by decide +kernel : ¬ V.str "no" = V.str "unknown")
  | not a => exact (by decide +kernel : ¬ V.str "not" = V.str "unknown")
  | bin k a b => exact mk6_unk k
def marksV : List V := [.str "plus", .str "times", .str "leads", .str "and", .str "or", .str "same"]
def Say.isBin : Say → Bool
  | .bin _ _ _ => true | _ => false
def Say.isNot : Say → Bool
  | .not _ => true | _ => false
theorem mk6_marks : ∀ k : Mk6, inV (.str k.str) marksV = true := by
  intro k
  cases k <;> decide +kernel
theorem in_marks (s : Say) : inV (.str s.head) marksV = s.isBin := by
  cases s with
  | unk x => exact (by decide +kernel : inV (.str "unknown") marksV = false)
  | yes => exact (by decide +kernel : inV (.str "yes") marksV = false)
  | no => exact (by decide +kernel : inV (.str "no") marksV = false)
  | not a => exact (by decide +kernel : inV (.str "not") marksV = false)
  | bin k a b => exact mk6_marks k
theorem head_not (s : Say) : decide (V.str s.head = V.str "not") = s.isNot := by
  cases s with
  | unk x => exact (by decide +kernel : decide (V.str "unknown" = V.str "not") = false)
  | yes => exact (by decide +kernel : decide (V.str "yes" = V.str "not") = false)
  | no => exact (by decide +kernel : decide (V.str "no" = V.str "not") = false)
  | not a => exact (by decide +kernel : decide (V.str "not" = V.str "not") = true)
  | bin k a b => exact decide_eq_false (mk6_not k)
theorem cut_tail (x : V) (xs : List V) : cutV (x :: xs) (some 1) none = xs := by
  unfold cutV
  have e1 : HT.sIx (x :: xs).length 0 (some 1) = 1 := by
    rw [show HT.sIx (x :: xs).length 0 (some 1) = min 1 (x :: xs).length from HT.sIx_nat _ 0 1]
    rw [List.length_cons]
    omega
  rw [e1, HT.sIx_none, List.length_cons, Nat.add_sub_cancel]
  exact List.take_length
theorem inV_strs (x : Str) (fs : List Str) : inV (.str x) (fs.map V.str) = decide (x ∈ fs) := by
  unfold inV
  rw [List.any_map]
  induction fs with
  | nil => rfl
  | cons y r ih =>
    rw [List.any_cons, ih]
    show ((y == x) || decide (x ∈ r)) = decide (x ∈ y :: r)
    by_cases e : x = y
    · subst e
      simp
    · have e' : ¬ y = x := fun z => e z.symm
      simp [e, e']
theorem flat_strs (fs : List Str) : (fs.map V.str).all flatV = true := by
  rw [List.all_map]
  exact List.all_eq_true.mpr fun x _ => rfl
section
variable {K : PySem.W.Frag} {H : Hp} {Q : VK} {a : Addr} {x : V} {xs : List V}
theorem rd_in (hs : SqL K H a xs ∨ SqT K H a xs) (hx : flatV x = true) (hf : xs.all flatV = true) {b : Bool} (hb : inV x xs = b) (h : Q (.bl b) H) : rIn K false x (.ref a) H Q := by
  refine ⟨a, xs, rfl, hs, hx, hf, ?_⟩
  rw [hb]
  exact h
theorem rd_tail (hs : SqT K H a (x :: xs)) (h : ∀ p, H p = none → Q (.ref p) (upd H p (.tup xs))) : rSlT K (.ref a) (some 1) none H Q := by
  refine ⟨a, x :: xs, rfl, hs, ?_, ?_⟩
  · rintro ⟨z, _⟩
    rw [show HT.sIx (x :: xs).length 0 (some 1) = min 1 (x :: xs).length from HT.sIx_nat _ 0 1, List.length_cons] at z
    omega
  · rw [cut_tail]
    exact h
end
def wsum (l : List Say) : Nat := (l.map Say.words).sum
theorem words_kids : ∀ s : Say, s.words = wsum s.kids + 1 := by
  intro s
  cases s <;> simp [Say.words, Say.kids, wsum]
theorem wsum_take {l : List Say} {i : Nat} {k : Say} (h : l[i]? = some k) : wsum (l.take i) + k.words ≤ wsum l := by
  induction l generalizing i with
  | nil => simp at h
  | cons x r ih =>
    cases i with
    | zero =>
      obtain rfl := Option.some.inj h
      show 0 + x.words ≤ x.words + wsum r
      omega
    | succ i =>
      have := ih (i := i) h
      show x.words + wsum (r.take i) + k.words ≤ x.words + wsum r
      omega
theorem names_len : ∀ (s : Say) (f : List Str), (s.namesIn f).length ≤ f.length + s.words
  | .unk x, f => by
    show (if x ∈ f then f else f ++ [x]).length ≤ f.length + 1
    split
    · omega
    · simp
  | .yes, f => Nat.le_add_right _ _
  | .no, f => Nat.le_add_right _ _
  | .not a, f => Nat.le_trans (names_len a f) (by show f.length + a.words ≤ f.length + (a.words + 1); omega)
  | .bin k a b, f => by
    have h1 := names_len a f
    have h2 := names_len b (a.namesIn f)
    show (b.namesIn (a.namesIn f)).length ≤ f.length + (a.words + b.words + 1)
    omega
def foldNames (l : List Say) (f : List Str) : List Str := l.foldl (fun f k => k.namesIn f) f
theorem fold_len (l : List Say) : ∀ f, (foldNames l f).length ≤ f.length + wsum l := by
  induction l with
  | nil => intro f; exact Nat.le_add_right _ _
  | cons x r ih =>
    intro f
    have h1 := ih (x.namesIn f)
    have h2 := names_len x f
    show (foldNames r (x.namesIn f)).length ≤ f.length + (x.words + wsum r)
    omega
theorem fold_more {l : List Say} {i : Nat} {k : Say} (h : l[i]? = some k) (f : List Str) : foldNames (l.take (i + 1)) f = k.namesIn (foldNames (l.take i) f) := by
  unfold foldNames
  rw [List.take_add_one, h, List.foldl_append]
  rfl
theorem names_kids {s : Say} (h : s.isUnk = false) (f : List Str) : s.namesIn f = foldNames s.kids f := by
  cases s with
  | unk x => cases h
  | yes => rfl
  | no => rfl
  | not a => rfl
  | bin k a b => rfl
def Say.heads (s : Say) : List Str := s.all.map Say.head
def Say.flatL : List Say → List Str := fun l => (l.map Say.heads).flatten
def Say.leavesL : List Say → List Str := fun l => (l.map Say.leaves).flatten
def Say.deepL : List Say → Nat := fun l => l.foldl (fun d k => max d (k.depth + 1)) 0
theorem heads_kids (s : Say) : s.heads = s.head :: Say.flatL s.kids := by
  cases s with
  | unk x => rfl
  | yes => rfl
  | no => rfl
  | not a => simp [Say.heads, Say.all, Say.flatL, Say.kids, Say.head]
  | bin k a b => simp [Say.heads, Say.all, Say.flatL, Say.kids, Say.head]
theorem leaves_kids {s : Say} (h : s.isUnk = false) : s.leaves = Say.leavesL s.kids := by
  cases s with
  | unk x => cases h
  | yes => rfl
  | no => rfl
  | not a => simp [Say.leaves, Say.leavesL, Say.kids]
  | bin k a b => simp [Say.leaves, Say.leavesL, Say.kids]
theorem depth_kids (s : Say) : s.depth = Say.deepL s.kids := by
  cases s with
  | unk x => rfl
  | yes => rfl
  | no => rfl
  | not a => show a.depth + 1 = max 0 (a.depth + 1); omega
  | bin k a b => show max a.depth b.depth + 1 = max (max 0 (a.depth + 1)) (b.depth + 1); omega
theorem all_len : ∀ s : Say, s.all.length = s.words
  | .unk x => rfl
  | .yes => rfl
  | .no => rfl
  | .not a => by show a.all.length + 1 = _; rw [all_len a]; rfl
  | .bin k a b => by show (a.all ++ b.all).length + 1 = _; rw [List.length_append, all_len a, all_len b]; rfl
theorem heads_len (s : Say) : s.heads.length = s.words := by
  unfold Say.heads
  rw [List.length_map, all_len]
theorem leaves_len : ∀ s : Say, s.leaves.length ≤ s.words
  | .unk x => Nat.le_refl _
  | .yes => Nat.zero_le _
  | .no => Nat.zero_le _
  | .not a => Nat.le_trans (leaves_len a) (Nat.le_succ _)
  | .bin k a b => by
    have h1 := leaves_len a
    have h2 := leaves_len b
    show (a.leaves ++ b.leaves).length ≤ a.words + b.words + 1
    rw [List.length_append]
    omega
theorem flat_len (l : List Say) : (Say.flatL l).length = wsum l := by
  induction l with
  | nil => rfl
  | cons x r ih =>
    show (x.heads ++ Say.flatL r).length = x.words + wsum r
    rw [List.length_append, heads_len, ih]
theorem leavesL_len (l : List Say) : (Say.leavesL l).length ≤ wsum l := by
  induction l with
  | nil => exact Nat.le_refl _
  | cons x r ih =>
    have h := leaves_len x
    show (x.leaves ++ Say.leavesL r).length ≤ x.words + wsum r
    rw [List.length_append]
    omega
theorem flat_more {l : List Say} {i : Nat} {k : Say} (h : l[i]? = some k) : Say.flatL (l.take (i + 1)) = Say.flatL (l.take i) ++ k.heads := by
  unfold Say.flatL
  rw [List.take_add_one, h, List.map_append, List.flatten_append]
  show _ ++ (k.heads ++ []) = _
  rw [List.append_nil]
theorem leaves_more {l : List Say} {i : Nat} {k : Say} (h : l[i]? = some k) : Say.leavesL (l.take (i + 1)) = Say.leavesL (l.take i) ++ k.leaves := by
  unfold Say.leavesL
  rw [List.take_add_one, h, List.map_append, List.flatten_append]
  show _ ++ (k.leaves ++ []) = _
  rw [List.append_nil]
theorem deep_more {l : List Say} {i : Nat} {k : Say} (h : l[i]? = some k) : Say.deepL (l.take (i + 1)) = max (Say.deepL (l.take i)) (k.depth + 1) := by
  unfold Say.deepL
  rw [List.take_add_one, h, List.foldl_append]
  rfl
def leafV : List V := [.str "unknown", .str "yes", .str "no"]
def Say.isLeaf : Say → Bool
  | .unk _ => true | .yes => true | .no => true | _ => false
theorem mk6_leaf : ∀ k : Mk6, inV (.str k.str) leafV = false := by
  intro k
  cases k <;> decide +kernel
theorem in_leaf (s : Say) : inV (.str s.head) leafV = s.isLeaf := by
  cases s with
  | unk x => exact (by decide +kernel : inV (.str "unknown") leafV = true)
  | yes => exact (by decide +kernel : inV (.str "yes") leafV = true)
  | no => exact (by decide +kernel : inV (.str "no") leafV = true)
  | not a => exact (by decide +kernel : inV (.str "not") leafV = false)
  | bin k a b => exact mk6_leaf k
/-- a test whose answer is a known truth value -/
theorem rd_bool {b : Bool} {A B : Prop} (h1 : b = true → A) (h2 : b = false → B) : if b = true then A else B := by
  cases b with
  | true => exact iteT (h1 rfl)
  | false => exact iteF (h2 rfl)
section
variable {K : PySem.W.Frag} {σ : L2.St} {H : Hp} {Q : VK} {D : Ends} {c : TT} {tb : TS} {a : Addr} {xs ys : List V}
theorem rd_while (W : Nat → L2.St → Hp → Prop) (m0 : Nat) (h0 : W m0 σ H) (hs : ∀ m σ H, W m σ H →
    c σ H fun b H1 => if b = true then ∃ N : L2.St → Hp → Prop, (∀ σ' H', N σ' H' → ∃ m', m' < m ∧ W m' σ' H') ∧ tb { D with nx := N, ct := N, bk := D.nx } σ H1 else D.nx σ H1) :
    tWhile c tb D σ H := ⟨W, ⟨m0, h0⟩, hs⟩
theorem rd_go {W : Nat → L2.St → Hp → Prop} {m : Nat} {P : (L2.St → Hp → Prop) → Prop} {B : Prop} (h : P fun σ' H' => ∃ m', m' < m ∧ W m' σ' H') :
    if true = true then ∃ N : L2.St → Hp → Prop, (∀ σ' H', N σ' H' → ∃ m', m' < m ∧ W m' σ' H') ∧ P N else B := iteT ⟨_, fun _ _ z => z, h⟩
theorem rd_truL {P : Bool → Prop} (h : SqL K H a xs) (q : P (!xs.isEmpty)) : ∃ k, TruV K (.ref a) H k ∧ P k := ⟨_, .inl ⟨xs, h, rfl⟩, q⟩
theorem rd_truT {P : Bool → Prop} (h : SqT K H a xs) (q : P (!xs.isEmpty)) : ∃ k, TruV K (.ref a) H k ∧ P k := ⟨_, .inr (.inl ⟨xs, h, rfl⟩), q⟩
theorem rd_pop {v : V} (h : H a = some (.lst (v :: xs).reverse)) (q : Q v (upd H a (.lst xs.reverse))) : rPop (.ref a) [] H Q := by
  have e : (v :: xs).reverse = xs.reverse ++ [v] := List.reverse_cons
  refine ⟨a, _, v, rfl, rfl, h, ?_, ?_⟩
  · rw [e, List.length_append, List.length_singleton, Nat.add_sub_cancel, List.getElem?_append_right (Nat.le_refl _), Nat.sub_self]
    rfl
  · rw [e, List.dropLast_concat]
    exact q
theorem rd_append {v : V} (h : H a = some (.lst xs)) (hz : xs.length < 1000000) (q : Q .non (upd H a (.lst (xs ++ [v])))) : rAppend (.ref a) [v] H Q :=
  ⟨a, xs, v, rfl, rfl, h, Nat.lt_trans hz (by decide), q⟩
theorem rd_extT {b : Addr} (h : H a = some (.lst xs)) (hb : H b = some (.tup ys)) (hz : xs.length + ys.length ≤ 1000000) (q : Q .non (upd H a (.lst (xs ++ ys)))) : rExtT K (.ref a) [.ref b] H Q :=
  ⟨a, b, xs, ys, rfl, rfl, h, hb, Nat.le_trans hz (by decide), q⟩
theorem rd_revT {te : TE} (h : te σ H fun x H1 => ∃ a xs, x = .ref a ∧ SqT K H1 a xs ∧ ∀ p, H1 p = none → Q (.ref p) (upd H1 p (.tup xs.reverse))) : tRevT K te σ H Q := h
theorem rd_revAt {P : List V → Prop} (h : SqT K H a xs) (q : P xs) : ∃ b ys, V.ref a = .ref b ∧ SqT K H b ys ∧ P ys := ⟨a, xs, rfl, h, q⟩
theorem rd_bm {T : String} {r : V → List V → Hp → VK → Prop} {to : TE} {t : TA} (h : to σ H fun x H1 => tyV K T x H1 ∧ t σ H1 fun xs H2 => r x xs H2 Q) : tBM K T r to t σ H Q := h
theorem rd_bm0 {T : String} {r : V → List V → Hp → VK → Prop} {to : TE} (h : to σ H fun x H1 => tyV K T x H1 ∧ r x [] H1 Q) : tBM0 K T r to σ H Q := h
end
/-- all words of several, one behind the other -/
def allL (l : List Say) : List Say := (l.map Say.all).flatten
theorem all_kids (s : Say) : s.all = s :: allL s.kids := by
  cases s with
  | unk x => rfl
  | yes => rfl
  | no => rfl
  | not a => simp [Say.all, allL, Say.kids]
  | bin k a b => simp [Say.all, allL, Say.kids]
theorem allL_append (l r : List Say) : allL (l ++ r) = allL l ++ allL r := by
  unfold allL
  rw [List.map_append, List.flatten_append]
theorem wsum_append (l r : List Say) : wsum (l ++ r) = wsum l + wsum r := by
  unfold wsum
  rw [List.map_append, List.sum_append_nat]
theorem allL_len (l : List Say) : (allL l).length = wsum l := by
  induction l with
  | nil => rfl
  | cons x r ih =>
    show (x.all ++ allL r).length = x.words + wsum r
    rw [List.length_append, all_len, ih]
theorem words_pos (s : Say) : 0 < s.words := by
  rw [words_kids]
  exact Nat.succ_pos _
theorem len_wsum (l : List Say) : l.length ≤ wsum l := by
  induction l with
  | nil => exact Nat.le_refl _
  | cons x r ih =>
    have := words_pos x
    show r.length + 1 ≤ x.words + wsum r
    omega
theorem count_range {α : Type} (l : List α) (d : α) (f : α → Bool) : ((List.range l.length).filter fun i => f (l.getD i d)).length = (l.filter f).length := by
  induction l with
  | nil => rfl
  | cons x r ih =>
    have e : (fun i => f ((x :: r).getD i d)) ∘ Nat.succ = fun i => f (r.getD i d) := rfl
    rw [List.length_cons, List.range_succ_eq_map, List.filter_cons, List.filter_map, e]
    have e0 : (x :: r).getD 0 d = x := rfl
    rw [e0, List.filter_cons]
    by_cases h : f x = true
    · rw [if_pos h, if_pos h, List.length_cons, List.length_cons, List.length_map, ih]
    · rw [if_neg h, if_neg h, List.length_map, ih]
theorem marks_count : ∀ s : Say, (s.all.filter Say.isBin).length = s.marks
  | .unk x => rfl
  | .yes => rfl
  | .no => rfl
  | .not a => by
    show ((Say.not a :: a.all).filter Say.isBin).length = a.marks
    rw [List.filter_cons_of_neg (show ¬ Say.isBin (.not a) = true from Bool.false_ne_true), marks_count a]
  | .bin k a b => by
    show ((Say.bin k a b :: (a.all ++ b.all)).filter Say.isBin).length = a.marks + b.marks + 1
    rw [List.filter_cons_of_pos (show Say.isBin (.bin k a b) = true from rfl), List.length_cons, List.filter_append, List.length_append, marks_count a, marks_count b]
/-- a text of the six marks -/
theorem mk6_of {v : V} (h : v ∈ ([.str "plus", .str "times", .str "leads", .str "and", .str "or", .str "same", .str "plus", .str "times", .str "leads"] : List V)) : ∃ k : Mk6, v = .str k.str := by
  simp only [List.mem_cons, List.not_mem_nil, or_false] at h
  rcases h with rfl | rfl | rfl | rfl | rfl | rfl | rfl | rfl | rfl
  · exact ⟨.plus, rfl⟩
  · exact ⟨.times, rfl⟩
  · exact ⟨.leads, rfl⟩
  · exact ⟨.and, rfl⟩
  · exact ⟨.or, rfl⟩
  · exact ⟨.same, rfl⟩
  · exact ⟨.plus, rfl⟩
  · exact ⟨.times, rfl⟩
  · exact ⟨.leads, rfl⟩
theorem rd_ints {i j : Int} {A B : Prop} (h1 : i = j → A) (h2 : i ≠ j → B) : if decide (V.int i = V.int j) = true then A else B :=
  rd_two (fun c => h1 (V.int.inj c)) fun c => h2 fun e => c (congrArg V.int e)
end
end Gd

/-! # data that shows well; sayings as data -/
namespace Gd
open PySem PySem.Spec PyProof.Rows L2
mutual
def smallD : PyData → Bool
  | .none => true
  | .bool _ => true
  | .int i => decide (i.natAbs < 10 ^ 11)
  | .str x => PyData.strOk x
  | .list xs => smallDs xs
  | .tuple xs => smallDs xs
  | .dict _ => false
def smallDs : List PyData → Bool
  | [] => true
  | x :: xs => smallD x && smallDs xs
end
mutual
theorem small_lay : ∀ d : PyData, smallD d = true → d.canLay0 = true
  | .none, _ => rfl
  | .bool _, _ => rfl
  | .int _, _ => rfl
  | .str x, h => by rw [smallD] at h; rw [PyData.canLay0]; exact h
  | .list xs, h => by rw [smallD] at h; rw [PyData.canLay0]; exact smalls_lay xs h
  | .tuple xs, h => by rw [smallD] at h; rw [PyData.canLay0]; exact smalls_lay xs h
  | .dict _, h => by rw [smallD] at h; cases h
theorem smalls_lay : ∀ xs : List PyData, smallDs xs = true → PyData.canLayAll0 xs = true
  | [], _ => rfl
  | x :: xs, h => by
    rw [smallDs, Bool.and_eq_true] at h
    rw [PyData.canLayAll0, small_lay x h.1, smalls_lay xs h.2]
    rfl
end
theorem PyData_int_len (i : Int) (h : i.natAbs < 10 ^ 11) : (PyData.shown (.int i)).length ≤ 12 := by
  rw [PyData.shown]
  have := int_text_length_le10 (k := 11) (by decide) h
  rw [PySem.ofString_length]
  exact this
mutual
theorem small_ints : ∀ d : PyData, smallD d = true → d.intsShort 13 = true
  | .none, _ => rfl
  | .bool _, _ => rfl
  | .int i, h => by
    rw [smallD, decide_eq_true_eq] at h
    rw [PyData.intsShort, decide_eq_true_eq]
    exact Nat.le_trans (PyData_int_len i h) (by decide)
  | .str x, h => rfl
  | .list xs, h => by rw [smallD] at h; rw [PyData.intsShort]; exact smalls_ints xs h
  | .tuple xs, h => by rw [smallD] at h; rw [PyData.intsShort]; exact smalls_ints xs h
  | .dict _, h => rfl
theorem smalls_ints : ∀ xs : List PyData, smallDs xs = true → PyData.intsShortAll 13 xs = true
  | [], _ => rfl
  | x :: xs, h => by
    rw [smallDs, Bool.and_eq_true] at h
    rw [PyData.intsShortAll, small_ints x h.1, smalls_ints xs h.2]
    rfl
end
mutual
theorem small_show : ∀ d : PyData, smallD d = true → d.showable = true
  | .none, _ => rfl
  | .bool _, _ => rfl
  | .int i, h => by
    rw [smallD, decide_eq_true_eq] at h
    rw [PyData.showable, decide_eq_true_eq]
    by_cases z : i.natAbs = 0
    · rw [z]; decide
    · refine (Nat.log2_lt z).mpr (Nat.lt_of_lt_of_le h ?_)
      exact Nat.le_trans (show 10 ^ 11 ≤ 2 ^ 64 by decide) (Nat.pow_le_pow_right (by decide) (by decide))
  | .str x, h => rfl
  | .list xs, h => by rw [smallD] at h; rw [PyData.showable]; exact smalls_show xs h
  | .tuple xs, h => by rw [smallD] at h; rw [PyData.showable]; exact smalls_show xs h
  | .dict _, h => by rw [smallD] at h; cases h
theorem smalls_show : ∀ xs : List PyData, smallDs xs = true → PyData.showableAll xs = true
  | [], _ => rfl
  | x :: xs, h => by
    rw [smallDs, Bool.and_eq_true] at h
    rw [PyData.showableAll, small_show x h.1, smalls_show xs h.2]
    rfl
end
section
variable {K : PySem.W.Frag} {H : Hp} {Q : VK} {v x y : V} {d d' : PyData}
theorem rd_repr (hd : Dp K H v d) (h : smallD d = true) (hb : d.bulk ≤ 1000000) (dp : d.depth ≤ 150) (q : Q (.str d.shown) H) : rRepr K [v] H Q :=
  ⟨v, d, rfl, hd, small_show d h, PyData.hasDict_of_canLay d (small_lay d h), dp,
    PyData.shown_fits_bulk (B := 13) (by decide) (by decide) (PyData.leavesShort_of_canLay0 13 d (small_lay d h) (small_ints d h)) (Nat.le_trans hb (by decide)), q⟩
theorem small_shaped (h : smallD d = true) (dp : d.depth ≤ 64) : SeqAt.shaped d = true := by
  show (d.canLay0 && decide (d.depth ≤ 64)) = true
  rw [small_lay d h, decide_eq_true dp]
  rfl
theorem rd_neD (hd : Dp K H x d) (he : Dp K H y d') (h1 : smallD d = true) (h2 : smallD d' = true) (p1 : d.depth ≤ 64) (p2 : d'.depth ≤ 64) (q : Q (.bl (!d.eqv d')) H) : rNeD K x y H Q :=
  ⟨d, d', hd, he, small_shaped h1 p1, small_shaped h2 p2, q⟩
theorem rd_eqD (hd : Dp K H x d) (he : Dp K H y d') (h1 : smallD d = true) (h2 : smallD d' = true) (p1 : d.depth ≤ 64) (p2 : d'.depth ≤ 64) (q : Q (.bl (d.eqv d')) H) : rEqD K x y H Q :=
  ⟨d, d', hd, he, small_shaped h1 p1, small_shaped h2 p2, q⟩
end
section
variable {K : PySem.W.Frag} {H : Hp} {v x y : V} {d d' : PyData}
/-! ### lists of numbers, of texts, of sayings -/
theorem dp_strs (K : PySem.W.Frag) (H : Hp) : ∀ fs : List Str, DpAll K H (fs.map V.str) (fs.map PyData.str)
  | [] => .nil
  | x :: r => .cons (.str x) (dp_strs K H r)
theorem dp_ints (K : PySem.W.Frag) (H : Hp) : ∀ ns : List Int, DpAll K H (ns.map V.int) (ns.map PyData.int)
  | [] => .nil
  | x :: r => .cons (.int x) (dp_ints K H r)
theorem small_strs : ∀ fs : List Str, (∀ x ∈ fs, PyData.strOk x = true) → smallDs (fs.map PyData.str) = true
  | [], _ => rfl
  | x :: r, h => by
    rw [List.map_cons, smallDs, smallD, h x (List.mem_cons_self ..), small_strs r fun y m => h y (List.mem_cons_of_mem _ m)]
    rfl
theorem small_intL : ∀ ns : List Int, (∀ x ∈ ns, x.natAbs < 10 ^ 11) → smallDs (ns.map PyData.int) = true
  | [], _ => rfl
  | x :: r, h => by
    rw [List.map_cons, smallDs, smallD, decide_eq_true (h x (List.mem_cons_self ..)), small_intL r fun y m => h y (List.mem_cons_of_mem _ m)]
    rfl
theorem depth_strs : ∀ fs : List Str, PyData.depthAll (fs.map PyData.str) = 0
  | [] => rfl
  | x :: r => by rw [List.map_cons, PyData.depthAll, PyData.depth, depth_strs r]; rfl
theorem depth_intL : ∀ fs : List Int, PyData.depthAll (fs.map PyData.int) = 0
  | [] => rfl
  | x :: r => by rw [List.map_cons, PyData.depthAll, PyData.depth, depth_intL r]; rfl
theorem bulk_strs : ∀ fs : List Str, (∀ x ∈ fs, x.cps.size ≤ 20) → PyData.bulkAll (fs.map PyData.str) ≤ 21 * fs.length
  | [], _ => Nat.zero_le _
  | x :: r, h => by
    rw [List.map_cons, PyData.bulkAll, PyData.bulk, List.length_cons]
    have h1 := h x (List.mem_cons_self ..)
    have h2 := bulk_strs r fun y m => h y (List.mem_cons_of_mem _ m)
    omega
theorem bulk_intL : ∀ fs : List Int, PyData.bulkAll (fs.map PyData.int) = fs.length
  | [] => rfl
  | x :: r => by
    rw [List.map_cons, PyData.bulkAll, PyData.bulk, List.length_cons, bulk_intL r]
    omega
end
def Say.data : Say → PyData
  | .unk x => .tuple [.str "unknown", .str x]
  | .yes => .tuple [.str "yes"]
  | .no => .tuple [.str "no"]
  | .not a => .tuple [.str "not", a.data]
  | .bin k a b => .tuple [.str k.str, a.data, b.data]
/-- a name whose text is short -/
def okName (x : Str) : Prop := PyData.strOk x = true ∧ x.cps.size ≤ 20
theorem mk6_strOk : ∀ k : Mk6, PyData.strOk k.str = true := by
  intro k
  cases k <;> decide +kernel
theorem mk6_size : ∀ k : Mk6, k.str.cps.size ≤ 5 := by
  intro k
  cases k <;> decide +kernel
theorem SayAt.dp (K : PySem.W.Frag) {H : Hp} : ∀ {s : Say} {v : V}, SayAt H s v → Dp K H v s.data
  | .unk x, v, ⟨p, e, h⟩ => e ▸ .tup (sqT h) (.cons (.str _) (.cons (.str _) .nil))
  | .yes, v, ⟨p, e, h⟩ => e ▸ .tup (sqT h) (.cons (.str _) .nil)
  | .no, v, ⟨p, e, h⟩ => e ▸ .tup (sqT h) (.cons (.str _) .nil)
  | .not a, v, ⟨p, u, e, h, ha⟩ => e ▸ .tup (sqT h) (.cons (.str _) (.cons (SayAt.dp K ha) .nil))
  | .bin k a b, v, ⟨p, u, w, e, h, ha, hb⟩ => e ▸ .tup (sqT h) (.cons (.str _) (.cons (SayAt.dp K ha) (.cons (SayAt.dp K hb) .nil)))
theorem say_small : ∀ s : Say, (∀ x ∈ s.leaves, okName x) → smallD s.data = true
  | .unk x, h => by
    rw [Say.data, smallD, smallDs, smallDs, smallDs, smallD, smallD, (h x (List.mem_singleton.mpr rfl)).1]
    decide +kernel
  | .yes, h => by decide +kernel
  | .no, h => by decide +kernel
  | .not a, h => by
    rw [Say.data, smallD, smallDs, smallDs, smallDs, smallD, say_small a h]
    decide +kernel
  | .bin k a b, h => by
    rw [Say.data, smallD, smallDs, smallDs, smallDs, smallDs, smallD, mk6_strOk, say_small a fun x m => h x (List.mem_append_left _ m), say_small b fun x m => h x (List.mem_append_right _ m)]
    rfl
theorem say_depth : ∀ s : Say, s.data.depth = s.depth + 1
  | .unk x => rfl
  | .yes => rfl
  | .no => rfl
  | .not a => by
    rw [Say.data, PyData.depth, PyData.depthAll, PyData.depthAll, PyData.depthAll, PyData.depth, say_depth a]
    show max 0 (max (a.depth + 1) 0) + 1 = a.depth + 1 + 1
    omega
  | .bin k a b => by
    rw [Say.data, PyData.depth, PyData.depthAll, PyData.depthAll, PyData.depthAll, PyData.depthAll, PyData.depth, say_depth a, say_depth b]
    show max 0 (max (a.depth + 1) (max (b.depth + 1) 0)) + 1 = max a.depth b.depth + 1 + 1
    omega
theorem say_bulk : ∀ s : Say, (∀ x ∈ s.leaves, okName x) → s.data.bulk ≤ 40 * s.words
  | .unk x, h => by
    have h1 := (h x (List.mem_singleton.mpr rfl)).2
    show ((7 + 1) + ((x.cps.size + 1) + 0)) ≤ 40 * 1
    omega
  | .yes, h => by decide +kernel
  | .no, h => by decide +kernel
  | .not a, h => by
    have h1 := say_bulk a h
    show ((3 + 1) + ((a.data.bulk + 1) + 0)) ≤ 40 * (a.words + 1)
    omega
  | .bin k a b, h => by
    have h1 := say_bulk a fun x m => h x (List.mem_append_left _ m)
    have h2 := say_bulk b fun x m => h x (List.mem_append_right _ m)
    have h3 := mk6_size k
    show ((k.str.cps.size + 1) + ((a.data.bulk + 1) + ((b.data.bulk + 1) + 0))) ≤ 40 * (a.words + b.words + 1)
    omega
theorem SaysAt.dp (K : PySem.W.Frag) {H : Hp} : ∀ {ss : List Say} {vs : List V}, SaysAt H ss vs → DpAll K H vs (ss.map Say.data)
  | _, _, .nil => .nil
  | _, _, .cons a b => .cons (a.dp K) (b.dp K)
theorem says_small : ∀ ss : List Say, (∀ s ∈ ss, ∀ x ∈ s.leaves, okName x) → smallDs (ss.map Say.data) = true
  | [], _ => rfl
  | s :: r, h => by
    rw [List.map_cons, smallDs, say_small s (h s (List.mem_cons_self ..)), says_small r fun y m => h y (List.mem_cons_of_mem _ m)]
    rfl
theorem says_depth (n : Nat) : ∀ ss : List Say, (∀ s ∈ ss, s.depth ≤ n) → PyData.depthAll (ss.map Say.data) ≤ n + 1
  | [], _ => Nat.zero_le _
  | s :: r, h => by
    rw [List.map_cons, PyData.depthAll, say_depth]
    have h1 := h s (List.mem_cons_self ..)
    have h2 := says_depth n r fun y m => h y (List.mem_cons_of_mem _ m)
    omega
theorem says_bulk : ∀ ss : List Say, (∀ s ∈ ss, ∀ x ∈ s.leaves, okName x) → PyData.bulkAll (ss.map Say.data) ≤ 41 * wsum ss
  | [], _ => Nat.zero_le _
  | s :: r, h => by
    rw [List.map_cons, PyData.bulkAll]
    have h1 := say_bulk s (h s (List.mem_cons_self ..))
    have h2 := says_bulk r fun y m => h y (List.mem_cons_of_mem _ m)
    have h3 := words_pos s
    show _ ≤ 41 * (s.words + wsum r)
    omega
open Evl in
/-- as lc_src, where the test lays new objects -/
theorem lc_srcA {σ : L2.St} {H1 : Hp} {te : TE} {tt : TT} {vs : List Nat} {j n : Nat} {J : L2.It} {G : Hp → Prop} {Y : Nat → Hp → V → Hp → Prop} {Dl : Addr} {Qd : Hp → Prop} (w : L2.Walk J n G Y) (src : Nat → V)
    (hy : ∀ i H x H', i < n → Y i H x H' → H' = H ∧ x = src i) (f : Nat → Bool) (v : Nat → V) (hn : n ≤ 1000000) (hD : H1 Dl = none)
    (hG : ∀ H', Same H1 H' → G H') (hw : ∀ x, wipe ((wipe σ vs).set j (some x)) vs = wipe σ vs)
    (ht : ∀ i H' (R : Bool → Hp → Prop), i < n → Same H1 H' → (∀ H'', Same H' H'' → R (f i) H'') → tt ((wipe σ vs).set j (some (src i))) H' R)
    (he : ∀ i H' (R : VK), i < n → f i = true → Same H1 H' → (∀ H'', Same H' H'' → R (v i) H'') → te ((wipe σ vs).set j (some (src i))) H' R)
    (hd : ∀ H', Same H1 H' → H' Dl = some (.lst (given n f v)) → Qd H') :
    ∃ W : Nat → Nat → Hp → Prop, (∃ m, W 0 m (upd H1 Dl (.lst []))) ∧ ∀ i m H, W i m H →
      (J.stop i H ∧ Qd H) ∨ (J.go i H ∧ ∃ Nx : Hp → Prop, (∀ H', Nx H' → ∃ m', m' < m ∧ W (i + 1) m' H') ∧
        ∀ x H', J.yld i H x H' → gName j x (wipe σ vs) H' fun σ2 H2 => wipe σ2 vs = wipe σ vs ∧ tt σ2 H2 fun b H3 =>
          if b = true then te σ2 H3 fun y H4 => ∃ acc, H4 Dl = some (.lst acc) ∧ acc.length < sizeLine ∧ Nx (upd H4 Dl (.lst (acc ++ [y]))) else Nx H3) := by
  refine lc_it w (fun i H' => Same H1 H' ∧ H' Dl = some (.lst (given i f v))) ⟨Same.new hD _, upd_same⟩ (fun i H' _ p => hG H' p.1) ?_ fun H' p => hd H' p.1 p.2
  intro i x H H' hi p y
  obtain ⟨rfl, rfl⟩ := hy i H x H' hi y
  refine ⟨hw _, ht i H' _ hi p.1 fun H0 s0 => ?_⟩
  have p' : Same H1 H0 ∧ H0 Dl = some (.lst (given i f v)) := ⟨p.1.trans s0, s0 _ _ p.2⟩
  cases hf : f i with
  | false =>
    refine iteF ⟨p'.1, ?_⟩
    rw [given_no hf]
    exact p'.2
  | true =>
    refine iteT (he i H0 _ hi hf p'.1 fun H'' s => ⟨given i f v, s _ _ p'.2, ?_, ?_, ?_⟩)
    · have := given_len i f v
      rw [sizeLine_eq]
      omega
    · exact Same.put (p'.1.trans s) hD _
    · rw [given_yes hf]
      exact upd_same
def atName (x : Str) : Say → Bool
  | .unk y => decide (y = x) | _ => false
theorem filter_leaves (x : Str) : ∀ s : Say, (s.leaves.filter fun y => decide (y = x)).length = (s.all.filter (atName x)).length
  | .unk y => by
    show (([y] : List Str).filter fun y => decide (y = x)).length = (([.unk y] : List Say).filter (atName x)).length
    by_cases c : y = x <;> simp [List.filter, c, atName]
  | .yes => rfl
  | .no => rfl
  | .not a => filter_leaves x a
  | .bin k a b => by
    show ((a.leaves ++ b.leaves).filter _).length = ((Say.bin k a b :: (a.all ++ b.all)).filter _).length
    rw [List.filter_cons_of_neg (show ¬ atName x (.bin k a b) = true from Bool.false_ne_true), List.filter_append, List.filter_append, List.length_append, List.length_append, filter_leaves x a, filter_leaves x b]
theorem marks_le : ∀ s : Say, s.marks ≤ s.words
  | .unk x => Nat.zero_le _
  | .yes => Nat.zero_le _
  | .no => Nat.zero_le _
  | .not a => Nat.le_trans (marks_le a) (Nat.le_succ _)
  | .bin k a b => by
    have h1 := marks_le a
    have h2 := marks_le b
    show a.marks + b.marks + 1 ≤ a.words + b.words + 1
    omega
/-- repr of a new tuple of whole numbers -/
theorem rd_reprI {K : PySem.W.Frag} {H : Hp} {Q : VK} {p : Addr} (ns : List Int) (h : H p = some (.tup (ns.map V.int))) (hs : ∀ x ∈ ns, x.natAbs < 10 ^ 11) (hl : ns.length ≤ 1000000)
    (q : Q (.str (PyData.tuple (ns.map PyData.int)).shown) H) : rRepr K [.ref p] H Q := by
  refine rd_repr (.tup (sqT h) (dp_ints K H ns)) ?_ ?_ ?_ q
  · rw [smallD]; exact small_intL ns hs
  · rw [PyData.bulk, bulk_intL]; exact hl
  · rw [PyData.depth, depth_intL]; decide
theorem rd_repr1 {K : PySem.W.Frag} {H : Hp} {Q : VK} {i : Int} (hs : i.natAbs < 10 ^ 11) (q : Q (.str (PyData.int i).shown) H) : rRepr K [.int i] H Q := by
  refine rd_repr (.int i) ?_ ?_ ?_ q
  · rw [smallD]; exact decide_eq_true hs
  · exact Nat.zero_le _
  · exact Nat.zero_le _
theorem rd_reprS {K : PySem.W.Frag} {H : Hp} {Q : VK} {p : Addr} (fs : List Str) (h : H p = some (.tup (fs.map V.str))) (hs : ∀ x ∈ fs, okName x) (hl : fs.length ≤ 10000)
    (q : Q (.str (PyData.tuple (fs.map PyData.str)).shown) H) : rRepr K [.ref p] H Q := by
  refine rd_repr (.tup (sqT h) (dp_strs K H fs)) ?_ ?_ ?_ q
  · rw [smallD]; exact small_strs fs fun x m => (hs x m).1
  · rw [PyData.bulk]
    have := bulk_strs fs fun x m => (hs x m).2
    omega
  · rw [PyData.depth, depth_strs]; decide
theorem rd_same {K : PySem.W.Frag} {x : V} {A B : Prop} (q : A) : if decide (x = x) = true then A else B := rd_true rfl q
/-- two texts that are one: no difference -/
theorem rd_neq {x : V} {A B : Prop} (q : B) : if (!decide (x = x)) = true then A else B := by
  rw [decide_eq_true rfl]
  exact iteF q
end Gd

/-! # the program's exceptions -/
namespace Gd
open PySem PySem.Spec PyProof.Rows L2
section
variable {X : Cx} {o e : Expr} {es : List Expr} {to te : TE} {ta : TA} {f : Str} {p p' p1 p2 pos : Pos}
/-- D.__init__(self, ..), where D has none of its own and stands over ValueError -/
theorem pe_binit {x : Str} {D : Addr} {pl : Sem Bool} (hg : Gl X x) (hm : X.mg x = some (.ref D))
    (hS : PySem.W.specialIn X.K (.ref D) "__getattribute__" = some (some (.builtin "type.__getattribute__"))) (hR : PySem.W.readsIn X.K D (.type "type") = true)
    (vV : PySem.W.findCls X.K (.ref D) (.type "type") "__init__" = some (.val (.builtin "ValueError.__init__"))) (ha : PA X (e :: es) ta)
    (hdb : (x == ("__debug__" : Str)) = false := by decide)
    (hc : eval (.Call (.Attribute (.Name x p1) "__init__" p2) (e :: es) [] pos) X.env = (do
      let ov ← eval (.Name x p1) X.env
      standAt p2.atName
      let (f, first) ← holding [ov] (getMethod ov "__init__" pl)
      callWith pos f first (backTo pos (starEach (e :: es) X.env)) (backToKw pos (keywordEach [] X.env))) := by rfl)
    (he : starEach (e :: es) X.env = (false, eval e X.env) :: starEach es X.env := by rfl) (hpl : (backTo pos (starEach es X.env)).any (·.1) = false := by rfl) :
    PE X (.Call (.Attribute (.Name x p1) "__init__" p2) (e :: es) [] pos) (tVeI X.K ta) := by
  refine ⟨fun pins s σ H Q I h => ?_⟩
  refine PySem.W.methodCall_KW (ld_glob I hg hm ?_ hdb) hc
  refine PySem.W.method_cls I.kIn hS (PySem.W.cls_value I.kIn hR vV (by decide +kernel) ?_)
  show wpAny _ _ (callWith pos (Value.builtin "ValueError.__init__") [] (backTo pos (starEach (e :: es) X.env)) []) _ _ _
  refine PyProof.Rows.callWith_method1 (thn (ha.run pos pins _ σ H _ (I.tok _) h) fun us s1 ⟨vs, H1, I1, r1, a, C, ws, ev, hl, T, ea, q⟩ => ?_) he hpl
  subst ev
  cases r1 with
  | @cons _ u0 _ ur ra rw' =>
    obtain rfl : u0 = Value.ref a := ra
    have hlen : ur.length ≤ sizeLine := by
      rw [← Paired.length rw', sizeLine_eq]
      omega
    exact oinit_ok T I1 ea hlen fun s' J => ⟨.non, H1, J, rfl, q⟩
end
/-- an own __init__: the base's, then one field -/
def spInitX (C : Addr) (f : Str) : Sp := fun vs H Q _ => ∃ (a : Addr) (v : V), vs = [.ref a, v] ∧ H a = some (exo a C none) ∧
  ∀ dx, H dx = none → dx ≠ a → Q .non (upd (upd H dx (exd dx [(f, v)])) a (exo a C (some dx)))
section
variable {K : PySem.W.Frag} {σ : L2.St} {H : Hp} {Q : VK} {D : Ends} {ta : TA} {to te : TE} {f : Str}
theorem rd_vei (h : ta σ H fun vs H1 => ∃ (a C : Addr) (ws : List V), vs = .ref a :: ws ∧ ws.length ≤ 1000 ∧ OexC K C ∧ H1 a = some (exo a C none) ∧ Q .non H1) : tVeI K ta σ H Q := h
theorem rd_ost (h : te σ H fun y H1 => to σ H1 fun x H2 => ∃ a C : Addr, x = .ref a ∧ OexC K C ∧ PySem.W.findIn K (.ref C) f = some none ∧
  ((H2 a = some (exo a C none) ∧ ∀ dx, H2 dx = none → dx ≠ a → D.nx σ (upd (upd H2 dx (exd dx [(f, y)])) a (exo a C (some dx)))) ∨
    ∃ (dx : Addr) (fs : List (Str × V)), H2 a = some (exo a C (some dx)) ∧ H2 dx = some (exd dx fs) ∧ fs.length ≤ 900 ∧ D.nx σ (upd H2 dx (exd dx ((f, y) :: fs))))) : tOst K f to te D σ H := h
/-- raise C(v): what is known of the heap behind it -/
theorem rd_raise {C : Addr} {v : V} {X : XK} (h : ∀ d H', Same H H' → H d = none → H' d = some (.xd [(f, v)]) → X (.ref C) (some d) H') :
    ([v] : List V).length ≤ 1000 ∧ ∀ a, H a = none → spInitX C f (.ref a :: ([v] ++ [])) (upd H a (exo a C none))
      (fun u H2 => u = .non ∧ ∃ (d : Addr) (fs : List (Str × V)), H2 a = some (exo a C (some d)) ∧ H2 d = some (exd d fs) ∧ H d = none ∧ X (.ref C) (some d) (upd (del H2 a) d (.xd fs))) (fun _ _ _ => False) := by
  refine ⟨by show 1 ≤ 1000; decide, fun a na => ⟨a, v, rfl, upd_same, fun dx nd ne => ⟨rfl, dx, [(f, v)], upd_same, ?_, ?_, ?_⟩⟩⟩
  · rw [upd_ne ne, upd_same]
  · rw [upd_ne ne] at nd
    exact nd
  · rw [upd_ne ne] at nd
    refine h dx _ (fun b o e => ?_) nd upd_same
    have hb : b ≠ dx := ne_of_none e nd
    have ha : b ≠ a := ne_of_none e na
    rw [upd_ne hb, del_ne ha, upd_ne ha, upd_ne hb, upd_ne ha]
    exact e
theorem rd_mko {C : Addr} {sp : Sp} {dvs : List V} {X : XK} (h : ta σ H fun vs H1 => vs.length ≤ 1000 ∧ ∀ a, H1 a = none → sp (.ref a :: (vs ++ dvs)) (upd H1 a (exo a C none))
  (fun v H2 => v = .non ∧ ∃ (d : Addr) (fs : List (Str × V)), H2 a = some (exo a C (some d)) ∧ H2 d = some (exd d fs) ∧ H1 d = none ∧ X (.ref C) (some d) (upd (del H2 a) d (.xd fs))) (fun _ _ _ => False)) : tMkO C sp dvs ta σ H X := h
theorem rd_callS {sp : Sp} {E : L2.St → XK} (h : ta σ H fun vs H1 => sp vs H1 Q (E σ)) : tCallS sp E ta σ H Q := h
end
end Gd

/-! # a tuple so many times, none and once among them -/
namespace Gd
open PySem PySem.Spec PyProof.Rows L2
theorem tuple_mul0 (l : Addr) (items : Array Value) (n : Nat) (dd : Option Addr) (sl : Array (Option Value)) (x : Int) (u : Tok) (c0 : (decide (x < -(2 ^ 63)) || decide (x ≥ 2 ^ 63)) = false) (c1 : (items.isEmpty || x == 1) = false) (c2 : (decide (x ≤ 0) || items.isEmpty) = true) :
    Meets (Builtin.«tuple.__mul__» ⟨[.ref l, .int x u], []⟩) (fun _ R s => s.heap.get? l = some { cls := .type "tuple", dict := dd, data := .seq items n, slots := sl } ∧
      R (.ok (.ret (Value.ref s.heap.objs.size))) { s with heap := s.heap.push { cls := Value.type "tuple", data := Data.seq #[] }, toks := s.toks }) :=
  .of_wp fun prog w A R s h => by
    obtain ⟨hp, g, d, tk, os⟩ := s
    obtain ⟨hl, h⟩ := h
    have f1 := AutoSeq1.idx_int
    wp_walk using wpAny_loadPart' hl
    repeat (first
      | (refine wpAny_ite_false (decide_eq_false (by rw [c0]; exact Bool.false_ne_true)) ?_; wp_walk using wpAny_loadPart' hl)
      | (refine wpAny_ite_false (decide_eq_false (by rw [c1]; exact Bool.false_ne_true)) ?_; wp_walk using wpAny_loadPart' hl)
      | (refine wpAny_ite_true (decide_eq_true (by rw [c2])) ?_; wp_walk using wpAny_loadPart' hl))
    exact ⟨_, rfl, h⟩
theorem tuple_mul1 (l : Addr) (items : Array Value) (n : Nat) (dd : Option Addr) (sl : Array (Option Value)) (u : Tok) :
    Meets (Builtin.«tuple.__mul__» ⟨[.ref l, .int 1 u], []⟩) (fun _ R s => s.heap.get? l = some { cls := .type "tuple", dict := dd, data := .seq items n, slots := sl } ∧
      R (.ok (.ret (Value.ref l))) s) :=
  .of_wp fun prog w A R s h => by
    obtain ⟨hp, g, d, tk, os⟩ := s
    obtain ⟨hl, h⟩ := h
    have f1 := AutoSeq1.idx_int
    have c1 : (items.isEmpty || (1 : Int) == 1) = true := by rw [show ((1 : Int) == 1) = true from rfl, Bool.or_true]
    wp_walk using wpAny_loadPart' hl
    repeat (first
      | (refine wpAny_ite_false (decide_eq_false (by decide)) ?_; wp_walk using wpAny_loadPart' hl)
      | (refine wpAny_ite_true (decide_eq_true (by rw [c1])) ?_; wp_walk using wpAny_loadPart' hl))
    exact ⟨_, rfl, h⟩
def rRepA (K : PySem.W.Frag) : R2 := fun x y H Q => ∃ l k xs, x = .ref l ∧ y = .int k ∧ SqT K H l xs ∧ xs ≠ [] ∧ 0 ≤ k ∧ k ≤ 1000 ∧ xs.length ≤ 1000 ∧ (k = 1 → Q (.ref l) H) ∧ (k ≠ 1 → ∀ p, H p = none → Q (.ref p) (upd H p (.tup (List.replicate k.toNat xs).flatten)))
theorem op_repA {X : Cx} : OpR X (binaryOp .Mult) (rRepA X.K) := by
  intro pins s σ H x y v u Q I rx ry h
  obtain ⟨l, k, xs, rfl, rfl, hT, hne, h0, h2, hz, q1, q⟩ := h
  by_cases h2' : 2 ≤ k
  · exact op_repT pins s σ H _ _ v u Q I rx ry ⟨l, k, xs, rfl, rfl, hT, hne, h2', h2, hz, q (by omega)⟩
  cases rx
  obtain ⟨t, rfl⟩ := ry
  obtain ⟨its, r, ⟨⟨cls, dd, data, sl⟩, ho, hc, n, hd⟩, hs⟩ := I.tuple hT
  simp only at hc hd
  subst hc hd
  have hle : its.length = xs.length := r.length.symm
  have hn : its ≠ [] := fun e => hne (by
    rw [e] at hle
    exact List.eq_nil_of_length_eq_zero hle.symm)
  have hi : its.toArray.isEmpty = false := by
    cases its with
    | nil => exact absurd rfl hn
    | cons a b => rfl
  have c0 : (decide (k < -(2 ^ 63)) || decide (k ≥ 2 ^ 63)) = false := by
    rw [decide_eq_false (by omega), decide_eq_false (by omega)] <;> rfl
  by_cases hk : k = 1
  · subst hk
    refine wpAny_binaryOp_repeat_ref (T := "tuple") (U := "int") (by decide) ⟨_, ho, rfl⟩ (fun s' => typeIs_int s' 1 t) noFill_tuple_mul F.fills_int_mul F.slot_int_rmul repeat_tuple F.slot_int_index.lookup
      (call_meets F.slot_int_rmul (typeIs_int s 1 t) F.entry_int_rmul (F.args_int_rmul_2 _ _) (int_rmul_tuple 1 t l its.toArray n dd sl)
        ⟨ho, rfl, ⟨_, ho, rfl⟩, call_meets F.slot_tuple_mul ⟨_, ho, rfl⟩ F.entry_tuple_mul (F.args_tuple_mul_2 _ _) (tuple_mul1 l its.toArray n dd sl t) ⟨ho, ?_⟩⟩)
    exact ⟨.ref l, H, I, rfl, q1 rfl⟩
  · have hk0 : k = 0 := by omega
    subst hk0
    have c1 : (its.toArray.isEmpty || (0 : Int) == 1) = false := by
      rw [hi]
      rfl
    have c2 : (decide ((0 : Int) ≤ 0) || its.toArray.isEmpty) = true := by
      rw [decide_eq_true (Int.le_refl 0)]
      rfl
    refine wpAny_binaryOp_repeat_ref (T := "tuple") (U := "int") (by decide) ⟨_, ho, rfl⟩ (fun s' => typeIs_int s' 0 t) noFill_tuple_mul F.fills_int_mul F.slot_int_rmul repeat_tuple F.slot_int_index.lookup
      (call_meets F.slot_int_rmul (typeIs_int s 0 t) F.entry_int_rmul (F.args_int_rmul_2 _ _) (int_rmul_tuple 0 t l its.toArray n dd sl)
        ⟨ho, rfl, ⟨_, ho, rfl⟩, call_meets F.slot_tuple_mul ⟨_, ho, rfl⟩ F.entry_tuple_mul (F.args_tuple_mul_2 _ _) (tuple_mul0 l its.toArray n dd sl 0 t c0 c1 c2) ⟨ho, ?_⟩⟩)
    refine ⟨.ref s.heap.objs.size, _, I.laid (t' := s.toks) (o := .tup []) (fun b ob q => Heap.get?_push_of_some _ q) (Nat.le_refl _) ?_, rfl, q (by decide) _ (I.hok.fresh (Nat.le_refl _))⟩
    exact ⟨Nat.zero_le _, [], .nil, IsTup.new _ _⟩
theorem rep_one (v : V) : ∀ n : Nat, (List.replicate n [v]).flatten = List.replicate n v
  | 0 => rfl
  | n + 1 => by
    rw [List.replicate_succ, List.flatten_cons, rep_one v n]
    rfl
section
variable {K : PySem.W.Frag} {H : Hp} {Q : VK} {a b l : Addr} {xs ys : List V} {v : V} {k : Nat}
/-- (v,) * k: at least the tuple of k -/
theorem rd_rep1 (h : SqT K H l [v]) (hk : k ≤ 1000) (q : ∀ p H', Same H H' → SqT K H' p (List.replicate k v) → Q (.ref p) H') : rRepA K (.ref l) (.int (k : Int)) H Q := by
  refine ⟨l, k, [v], rfl, rfl, h, List.cons_ne_nil _ _, by omega, by omega, by show 1 ≤ 1000; decide, fun e => ?_, fun _ p np => ?_⟩
  · have e' : k = 1 := by omega
    subst e'
    exact q l H (Same.refl _) h
  · refine q p _ (Same.new np _) ?_
    rw [Int.toNat_natCast, rep_one]
    exact sqT upd_same
/-- one tuple behind another -/
theorem rd_catT (hx : SqT K H a xs) (hy : SqT K H b ys) (hn : xs ≠ []) (hz : xs.length + ys.length ≤ 1000000) (q : ∀ p H', Same H H' → SqT K H' p (xs ++ ys) → Q (.ref p) H') : rCatT K (.ref a) (.ref b) H Q := by
  refine ⟨a, b, xs, ys, rfl, rfl, hx, hy, hn, Nat.le_trans hz (by decide), fun e => ?_, fun _ p np => ?_⟩
  · subst e
    refine q a H (Same.refl _) ?_
    rw [List.append_nil]
    exact hx
  · exact q p _ (Same.new np _) (sqT upd_same)
end
theorem op_catTK {X : Cx} (K : PySem.W.Frag) (h : X.K = K := by rfl) : OpR X (binaryOp .Add) (rCatT K) := h ▸ op_catT
theorem op_repK {X : Cx} (K : PySem.W.Frag) (h : X.K = K := by rfl) : OpR X (binaryOp .Mult) (rRepA K) := h ▸ op_repA
theorem isiK {X : Cx} (K : PySem.W.Frag) (h : X.K = K := by rfl) : CallR X (.builtin "isinstance") (rIsi K) := h ▸ call_isi
theorem rd_isi {K : PySem.W.Frag} {H : Hp} {Q : VK} {x : V} {a n : String} {b : Bool} (ty : TyX K H x (.type a)) (h : kitB a n = some b) (q : Q (.bl b) H) : rIsi K [x, .ty n] H Q :=
  ⟨x, .ty n, .type a, .type n, b, rfl, .ty n, ty, kit_ty h, q⟩
theorem log2_small {i : Int} (h : i.natAbs < 10 ^ 40) : i.natAbs.log2 < 140 := by
  by_cases z : i.natAbs = 0
  · rw [z]; decide
  · exact (Nat.log2_lt z).mpr (Nat.lt_of_lt_of_le h (by decide))
theorem mulB_ok {i j : Int} (h1 : i.natAbs < 10 ^ 40) (h2 : j.natAbs < 10 ^ 40) : CMulB i j := by
  have a := log2_small h1
  have b := log2_small h2
  show i.natAbs.log2 + j.natAbs.log2 < 100000000
  omega
end Gd

/-! # whole numbers in rows; common measures -/
namespace Gd
open PySem PySem.Spec PyProof.Rows L2
def rLcm : List V → Hp → VK → Prop := fun vs H Q => ∃ a b : Int, vs = [.int a, .int b] ∧ a.natAbs < 2 ^ 64 ∧ b.natAbs < 2 ^ 64 ∧ Q (.int ((Nat.lcm a.natAbs b.natAbs : Nat) : Int)) H
theorem cr_lcm {X : Cx} : CallR X (.builtin "math.lcm") rLcm := by
  intro pins s σ H vs us Q I r h
  obtain ⟨a, b, rfl, ha, hb, q⟩ := h
  obtain ⟨t, u, rfl⟩ := Vals.int2 r
  exact PySem.W.mc_lcm ha hb fun _ => ⟨.int _, H, I.tok _, ⟨_, rfl⟩, q⟩
theorem tup_indexK {X : Cx} (K : PySem.W.Frag) (h : X.K = K := by rfl) : MtR X "tuple.index" (fun x xs H Q => ∃ p, ∃ ys : List Str, ∃ z j, x = .ref p ∧ xs = [.str z] ∧ SqT K H p (ys.map V.str) ∧ ys[j]? = some z ∧ (∀ m, m < j → ys[m]? ≠ some z) ∧ Q (.int (j : Nat)) H) := h ▸ mt_tup_index
theorem rd_aug {i : Nat} {te : TE} {ti : TIp} {D : Ends} {σ : L2.St} {H : Hp} {x : V} (e : σ[i]? = some (some x)) (h : te σ H fun y H1 => ti x y H1 fun z H2 => D.nx (σ.set i (some z)) H2) : tAug i te ti D σ H := ⟨x, e, h⟩
theorem rd_ipI {f : Int → Int → Int} {i j : Int} {H : Hp} {Q : VK} (q : Q (.int (f i j)) H) : ipI f (.int i) (.int j) H Q := ⟨i, j, rfl, rfl, q⟩
theorem wint_at {xs : List Int} {i : Nat} {x : V} (h : (xs.map V.int)[i]? = some x) : ∃ n, x = .int n ∧ xs[i]? = some n := by
  rw [List.getElem?_map] at h
  cases e : xs[i]? with
  | none => rw [e] at h; cases h
  | some n => rw [e] at h; exact ⟨n, (Option.some.inj h).symm, rfl⟩
theorem wint_get {xs : List Int} {i : Nat} (hi : i < xs.length) : (xs.map V.int).getD i .non = V.int (xs.getD i 0) := by
  rw [List.getD_eq_getElem?_getD, List.getD_eq_getElem?_getD, List.getElem?_map, List.getElem?_eq_getElem hi]
  rfl
theorem wzip_at (f : Int → Int → Int) {xs ys : List Int} {i : Nat} {x y : Int} (hx : xs[i]? = some x) (hy : ys[i]? = some y) : (List.zipWith f xs ys).getD i 0 = f x y := by
  rw [List.getD_eq_getElem?_getD, List.getElem?_zipWith, hx, hy]
  rfl
theorem wrange (l : List Int) : (List.range l.length).map (fun i => V.int (l.getD i 0)) = l.map V.int := by
  refine List.ext_getElem? fun i => ?_
  rw [List.getElem?_map, List.getElem?_map]
  by_cases h : i < l.length
  · rw [List.getElem?_range h, List.getElem?_eq_getElem h]
    show some (V.int (l.getD i 0)) = some (V.int l[i])
    rw [List.getD_eq_getElem?_getD, List.getElem?_eq_getElem h]
    rfl
  · rw [List.getElem?_eq_none (by rw [List.length_range]; omega), List.getElem?_eq_none (by omega)]
    rfl
theorem wrange_zip (f : Int → Int → Int) {xs ys : List Int} (h : xs.length = ys.length) : (List.range xs.length).map (fun i => V.int ((List.zipWith f xs ys).getD i 0)) = (List.zipWith f xs ys).map V.int := by
  have e : (List.zipWith f xs ys).length = xs.length := by rw [List.length_zipWith, h, Nat.min_self]
  rw [← e]
  exact wrange _
open Evl in
theorem given_all (n : Nat) (l : List Int) (h : l.length = n) : given n (fun _ => true) (fun i => V.int (l.getD i 0)) = l.map V.int := by
  unfold given
  rw [List.filter_eq_self.mpr (fun _ _ => rfl), ← h]
  exact wrange l
/-! ### pairs in a row: fractions -/
inductive PrsAt (K : PySem.W.Frag) (H : Hp) : List (Int × Int) → List V → Prop
  | nil : PrsAt K H [] []
  | cons {a b : Int} {p : Addr} {ps : List (Int × Int)} {vs : List V} : SqT K H p [.int a, .int b] → PrsAt K H ps vs → PrsAt K H ((a, b) :: ps) (.ref p :: vs)
section
variable {K : PySem.W.Frag} {H H' : Hp}
theorem PrsAt.keep (h : ∀ p xs, SqT K H p xs → SqT K H' p xs) : ∀ {ps : List (Int × Int)} {vs : List V}, PrsAt K H ps vs → PrsAt K H' ps vs
  | _, _, .nil => .nil
  | _, _, .cons a b => .cons (h _ _ a) (b.keep h)
theorem PrsAt.length : ∀ {ps : List (Int × Int)} {vs : List V}, PrsAt K H ps vs → ps.length = vs.length
  | _, _, .nil => rfl
  | _, _, .cons a b => congrArg Nat.succ b.length
theorem PrsAt.get : ∀ {ps : List (Int × Int)} {vs : List V} {i : Nat} {v : V}, PrsAt K H ps vs → vs[i]? = some v → ∃ a b p, ps[i]? = some (a, b) ∧ v = .ref p ∧ SqT K H p [.int a, .int b]
  | _, _, i, v, .nil, e => by simp at e
  | _, _, 0, v, .cons a b, e => by
    obtain rfl := Option.some.inj e
    exact ⟨_, _, _, rfl, rfl, a⟩
  | _, _, i + 1, v, .cons a b, e => b.get (i := i) e
theorem PrsAt.append : ∀ {ps qs : List (Int × Int)} {vs ws : List V}, PrsAt K H ps vs → PrsAt K H qs ws → PrsAt K H (ps ++ qs) (vs ++ ws)
  | _, _, _, _, .nil, b => b
  | _, _, _, _, .cons a r, b => .cons a (r.append b)
end
section
variable {K : PySem.W.Frag} {σ : L2.St} {H : Hp} {g : TG} {tb : TS} {a b : Addr} {xs ys : List V}
theorem forZ {Nx : L2.St → Hp → Prop} {Rt : VK} (hl : xs.length = ys.length) (Pv : Nat → L2.St → Hp → Prop) (h0 : Pv 0 σ H) (hq : ∀ i σ H, Pv i σ H → SqT K H a xs ∧ SqT K H b ys)
    (hs : ∀ (i : Nat) (x y : V) (T : Addr) (σ : L2.St) (H : Hp), xs[i]? = some x → ys[i]? = some y → Pv i σ H → H T = none → g (.ref T) σ (upd H T (.tup [x, y])) fun σ2 H2 => tb { nx := Pv (i + 1), rt := Rt, ct := Pv (i + 1), bk := Nx } σ2 H2) (hd : ∀ σ H, Pv xs.length σ H → Nx σ H) :
    ∃ W : Nat → Nat → L2.St → Hp → Prop, (∃ m, W 0 m σ H) ∧ ∀ i m σ H, W i m σ H →
      ((RZ.ItzT K a b).stop i H ∧ Nx σ H) ∨ ((RZ.ItzT K a b).go i H ∧ ∃ N : L2.St → Hp → Prop, (∀ σ' H', N σ' H' → ∃ m', m' < m ∧ W (i + 1) m' σ' H') ∧ ∀ v H', (RZ.ItzT K a b).yld i H v H' → g v σ H' fun σ2 H2 => tb { nx := N, rt := Rt, bk := Nx, ct := N } σ2 H2) :=
  RZ.for_zipT (D := { nx := Nx, rt := Rt }) hl Pv h0 hq hs hd
end
/-! ### a tuple that was just made from a list: its object is known -/
theorem tuple_frzK {X : Cx} (K : PySem.W.Frag) (hK : X.K = K := by rfl) : CallR X (.type "tuple") (fun xs H Q => ∃ p ys, xs = [.ref p] ∧ SqL K H p ys ∧ ∀ (l : Addr) (ob : Obj), H l = none → ob.dict = none → Q (.ref l) (upd H l (.frz ob (.tup ys)))) := by
  subst hK
  intro pins s σ H xs us Q I r h
  obtain ⟨p, ys, rfl, hq, q⟩ := h
  obtain ⟨u, rfl, rx⟩ := vals1 r
  cases rx
  obtain ⟨its, r', pl, hz⟩ := I.list hq
  have hlen := r'.length
  refine call_tuple_list pl.isList (fun h' kp => ?_) (by simp only [List.size_toArray] <;> omega)
  have I1 : Inv X pins σ H { s with heap := h' } := I.kept (t' := s.toks) kp
  have hget : (h'.push { cls := .type "tuple", data := .seq its.toArray }).get? h'.objs.size = some { cls := .type "tuple", data := .seq its.toArray } := by heap_get
  have I2 : Inv X pins σ (upd H h'.objs.size (.frz { cls := .type "tuple", data := .seq its.toArray } (.tup ys))) { s with heap := h'.push { cls := .type "tuple", data := .seq its.toArray } } :=
    I1.laid (t' := s.toks) (fun b o e => Heap.get?_push_of_some _ e) (Nat.le_refl _) (show ObjOk X.prog X.w _ _ _ (.frz { cls := .type "tuple", data := .seq its.toArray } (.tup ys)) from ⟨hget, hz, its, r', IsTup.new _ _⟩)
  exact ⟨.ref h'.objs.size, _, I2, rfl, q _ _ (I1.hok.fresh (Nat.le_refl _)) rfl⟩
def tBMF (r : V → List V → Hp → VK → Prop) (to : TE) (t : TA) : TE := fun σ H Q => to σ H fun x H1 => (∃ (a : Addr) (ob : Obj) (xs : List V), x = .ref a ∧ H1 a = some (.frz ob (.tup xs)) ∧ ob.dict = none) ∧ t σ H1 fun xs H2 => r x xs H2 Q
theorem pe_bmF {X : Cx} {o e : Expr} {es : List Expr} {to : TE} {t : TA} {name : Str} {apos cpos : Pos} {id : String} {r : V → List V → Hp → VK → Prop} (pa : PlainAttrs "tuple") (slot : Slot "tuple" name id) (hty : typeOf (.builtin id) = pure (.type "method_descriptor")) (hm : MtR X id r) (ho : PE X o to) (ha : PA X (e :: es) t)
    (hbase : attributeBase o name X.env (eval o X.env) = eval o X.env := by rfl)
    (hfew : ((backTo cpos (starEach (e :: es) X.env)).all (fun x => !x.1) && (backToKw cpos (keywordEach [] X.env)).all (fun x => x.1.isSome)
      && decide ((e :: es).length + ([] : List Keyword).length + (if ([] : List Keyword).isEmpty then 0 else 1) < 30)) = true := by rfl)
    (hline : (apos.endLine == cpos.line) = true := by rfl) (hs : starEach (e :: es) X.env = (false, eval e X.env) :: starEach es X.env := by rfl) (hplain : (backTo cpos (starEach es X.env)).any (·.1) = false := by rfl) :
    PE X (.Call (.Attribute o name apos) (e :: es) [] cpos) (tBMF r to t) := by
  refine ⟨fun pins s σ H Q I h => ?_⟩
  refine wpAny_Call_method_late hbase hfew hline rfl (thn (ho.run pins s σ H _ I h) fun v s1 ⟨x, H1, I1, r1, ⟨a, ob, ys, ex, ea, hd⟩, q1⟩ => ?_)
  subst ex
  obtain rfl : v = Value.ref a := r1
  obtain ⟨e0, _, its, _, ⟨o2, e2, c2, _⟩⟩ := (show ObjOk X.prog X.w H1 s1.heap a (.frz ob (.tup ys)) from I1.hok a _ ea)
  rw [e0] at e2
  obtain rfl := Option.some.inj e2
  refine ⟨"tuple", id, pa, slot, hty, ⟨ob, e0, c2⟩, (fun b e => by cases e; exact ⟨ob, e0, hd⟩), ?_⟩
  have hA := ha.run cpos pins s1 σ H1 _ I1 q1
  rw [hs] at hA ⊢
  refine Calls.callWith_builtin (by show (false || (backTo cpos (starEach es X.env)).any (·.1)) = false; rw [hplain] <;> rfl) (Calls.evalArgs_plain ?_)
  exact thn hA fun us s2 ⟨vs, H2, I2, r2, q2⟩ => hm pins s2 σ H2 (.ref a) vs _ us Q I2 rfl r2 q2
theorem rd_bmF {r : V → List V → Hp → VK → Prop} {to : TE} {t : TA} {σ : L2.St} {H : Hp} {Q : VK} (h : to σ H fun x H1 => (∃ (a : Addr) (ob : Obj) (xs : List V), x = .ref a ∧ H1 a = some (.frz ob (.tup xs)) ∧ ob.dict = none) ∧ t σ H1 fun xs H2 => r x xs H2 Q) : tBMF r to t σ H Q := h
end Gd

/-! # zip of a list and a tuple -/
namespace Gd
open PySem PySem.Spec PyProof.Rows L2
/-- the list at a and the tuple at b, as they stand at each turn, the items in new pairs -/
def ItzM (K : PySem.W.Frag) (a b : Addr) : It where
  go i H := ∃ (xs ys : List V) (x y : V), SqL K H a xs ∧ SqT K H b ys ∧ xs[i]? = some x ∧ ys[i]? = some y
  yld i H v H' := ∃ (T : Addr) (x y : V), v = .ref T ∧ H T = none ∧ H' = upd H T (.tup [x, y]) ∧ (∀ xs, SqL K H a xs → xs[i]? = some x) ∧ ∀ ys, SqT K H b ys → ys[i]? = some y
  stop i H := ∃ xs ys : List V, SqL K H a xs ∧ SqT K H b ys ∧ i = min xs.length ys.length
/-- the five cells of a zip laid at N, over what stood below -/
def znM (N a b : Addr) : Nat → Heap → Prop := fun i h => IsZip h (N + 4) (N + 2) (N + 3) .none ∧ IsTupOf2 h (N + 2) (.ref N) (.ref (N + 1)) ∧ (∃ u v, IsTupOf2 h (N + 3) u v) ∧ h.IsListIter N a i ∧ h.IsTupleIter (N + 1) b i
theorem five {N c : Addr} (h : c ∈ ([N + 4, N + 2, N + 3, N, N + 1] : List Addr)) : c = N + 4 ∨ c = N + 2 ∨ c = N + 3 ∨ c = N ∨ c = N + 1 := by simpa using h
theorem four {N c : Addr} (h : c ∈ ([N + 4, N + 3, N, N + 1] : List Addr)) : c ∈ ([N + 4, N + 2, N + 3, N, N + 1] : List Addr) := by
  simp only [List.mem_cons, List.not_mem_nil, or_false] at h ⊢
  rcases h with h | h | h | h
  · exact .inl h
  · exact .inr (.inr (.inl h))
  · exact .inr (.inr (.inr (.inl h)))
  · exact .inr (.inr (.inr (.inr h)))
theorem turn_zipM {P : Program} {w : World} {K : PySem.W.Frag} {elts : List Expr} {kk : Nat} {tpos : Pos} {N a b : Addr} (ha : a < N) (hb : b < N) :
    Turn P w K (.Tuple elts kk tpos) (ItzM K a b) [N + 4, N + 2, N + 3, N, N + 1] (N + 4) (znM N a b) where
  mem := List.mem_cons_self ..
  obj := by
    rintro i h ⟨hz, hT, ⟨u, v, hO⟩, ⟨o1, e1, _, d1⟩, ⟨o2, e2, _, d2⟩⟩ c hc
    rcases five hc with rfl | rfl | rfl | rfl | rfl
    · exact ⟨_, hz, fun v q => nomatch q⟩
    · exact ⟨_, hT, fun v q => nomatch q⟩
    · exact ⟨_, hO, fun v q => nomatch q⟩
    · exact ⟨o1, e1, fun v q => by rw [d1] at q; cases q⟩
    · exact ⟨o2, e2, fun v q => by rw [d2] at q; cases q⟩
  keep := by
    rintro i h h' ⟨hz, hT, ⟨u, v, hO⟩, h1, h2⟩ k
    exact ⟨k _ (by simp) _ hz, k _ (by simp) _ hT, ⟨u, v, k _ (by simp) _ hO⟩, h1.at fun o q => k _ (by simp) o q, h2.at fun o q => k _ (by simp) o q⟩
  item := by
    rintro X rfl rfl rfl hc i pins s σ H E I hf ⟨hz, hT, hO, h1, h2⟩ ⟨xs, ys, x, y, hx, hy, ex, ey⟩
    obtain ⟨its, rv, p1, _⟩ := I.list hx
    obtain ⟨jts, rw', p2, _⟩ := I.tuple hy
    obtain ⟨u, hu, ru⟩ := rv.get ex
    obtain ⟨v, hv, rv2⟩ := rw'.get ey
    have hh : X.A.in1.handled = none := I.ok.hd hc
    have S : ZipSep2 (N + 4) (N + 2) (N + 3) N (N + 1) [N, a] [N + 1, b] := zip_sep2 (fp1 := [a]) (fp2 := [b]) (fun c hc => by rw [List.mem_singleton.mp hc]; exact ha) (fun c hc => by rw [List.mem_singleton.mp hc]; exact hb)
    have D1 := Draws.list (prog := X.prog) (w := X.w) (A := X.A.in1) hh N a (Nat.ne_of_lt ha) its.toArray
    have D2 := Draws.tuple (prog := X.prog) (w := X.w) (A := X.A.in1) hh (N + 1) b (Nat.ne_of_lt (Nat.lt_succ_of_lt hb)) jts.toArray
    have G := GoesN.zip2 (elts := elts) (x1 := kk) (pos := tpos) S D1 D2
    have li : i < its.length := (List.getElem?_eq_some_iff.mp hu).1
    have lj : i < jts.length := (List.getElem?_eq_some_iff.mp hv).1
    have IT : s.heap.IsTuple b jts.toArray := p2
    refine G.goes i s _ E (by rw [List.size_toArray, List.size_toArray]; omega) ⟨hz, hT, hO, ⟨h1, p1.isList⟩, ⟨h2, IT⟩⟩ fun r h' tk hY st hk _ => ?_
    obtain ⟨T, x', y', rfl, hnew, hx', hy', hTT⟩ := hY
    have exu : x' = u := Option.some.inj ((show some x' = some u by rw [← hx', ← hu]; simp))
    have eyv : y' = v := Option.some.inj ((show some y' = some v by rw [← hy', ← hv]; simp))
    subst exu
    subst eyv
    have new : ObjOk X.prog X.w (upd H T (.tup [x, y])) h' T (.tup [x, y]) := ⟨by show 2 ≤ sizeLine; decide, [x', y'], .cons ru (.cons rv2 .nil), hTT⟩
    have J := I.turnedNew (t' := tk) (ch := [N + 4, N + 2, N + 3, N, N + 1]) (fun c o hcc q => hk c o (fun z => hcc (four z)) q) hf hnew new
    refine ⟨.ref T, _, J, rfl, ⟨T, x, y, rfl, I.hok.fresh hnew, rfl, fun l hl => by rw [I.list_inj hl hx]; exact ex, fun l hl => by rw [I.tuple_inj hl hy]; exact ey⟩, ⟨st.1, st.2.1, st.2.2.1, st.2.2.2.1.1, st.2.2.2.2.1⟩, fun c hcm => ?_⟩
    have hlt : c < s.heap.objs.size := by
      obtain ⟨o1, e1, _⟩ := h1
      obtain ⟨o2, e2, _⟩ := h2
      obtain ⟨u0, v0, e3⟩ := hO
      rcases five hcm with rfl | rfl | rfl | rfl | rfl
      · exact Heap.lt_size hz
      · exact Heap.lt_size hT
      · exact Heap.lt_size e3
      · exact Heap.lt_size e1
      · exact Heap.lt_size e2
    rw [upd_ne (Nat.ne_of_lt (Nat.lt_of_lt_of_le hlt hnew))]
    exact (hf c hcm).1
  done := by
    rintro X rfl rfl rfl hc i pins s σ H E I hf ⟨hz, hT, hO, h1, h2⟩ ⟨xs, ys, hx, hy, rfl⟩
    obtain ⟨its, rv, p1, _⟩ := I.list hx
    obtain ⟨jts, rw', p2, _⟩ := I.tuple hy
    have hh : X.A.in1.handled = none := I.ok.hd hc
    have S : ZipSep2 (N + 4) (N + 2) (N + 3) N (N + 1) [N, a] [N + 1, b] := zip_sep2 (fp1 := [a]) (fp2 := [b]) (fun c hc => by rw [List.mem_singleton.mp hc]; exact ha) (fun c hc => by rw [List.mem_singleton.mp hc]; exact hb)
    have D1 := Draws.list (prog := X.prog) (w := X.w) (A := X.A.in1) hh N a (Nat.ne_of_lt ha) its.toArray
    have D2 := Draws.tuple (prog := X.prog) (w := X.w) (A := X.A.in1) hh (N + 1) b (Nat.ne_of_lt (Nat.lt_succ_of_lt hb)) jts.toArray
    have G := GoesN.zip2 (elts := elts) (x1 := kk) (pos := tpos) S D1 D2
    have IT : s.heap.IsTuple b jts.toArray := p2
    have e : min xs.length ys.length = min its.toArray.size jts.toArray.size := by rw [List.size_toArray, List.size_toArray, rv.length, rw'.length]
    rw [e] at h1 h2
    exact G.stops s _ E ⟨hz, hT, hO, ⟨h1, p1.isList⟩, ⟨h2, IT⟩⟩ fun h' tk hk _ => I.turnedL (t' := tk) (ch := [N + 4, N + 2, N + 3, N, N + 1]) (fun c o hcc q => hk c o (fun z => hcc (four z)) q) hf
  self := fun A i s Q E st h => wpAny_pyIter_zip st.1 h
def iZipM (K : PySem.W.Frag) (ta : TA) : TI := fun σ H R => ta σ H fun vs H1 => ∃ (a b : Addr) (xs ys : List V), vs = [.ref a, .ref b] ∧ SqL K H1 a xs ∧ SqT K H1 b ys ∧ R (ItzM K a b) H1
theorem pi_zipM {X : Cx} {e e2 : Expr} {ta : TA} {p pos tpos : Pos} {elts : List Expr} {kk : Nat} (hg : Gl X "zip") (hm : X.mg "zip" = none) (ha : PA X [e, e2] ta)
    (hs : starEach [e, e2] X.env = (false, eval e X.env) :: starEach [e2] X.env := by rfl) (hpl : (backTo pos (starEach [e2] X.env)).any (·.1) = false := by rfl) :
    PI X (.Tuple elts kk tpos) (.Call (.Name "zip" p) [e, e2] [] pos) (iZipM X.K ta) := by
  refine ⟨fun pins s σ H R I h => ?_⟩
  refine Call_ (ld_blt I hg hm PyProof.Rows.boot_zip (PyProof.Rows.callWith_type1 (thn (ha.run pos pins s σ H _ I h) fun us s1 hh => ?_) hs hpl))
  obtain ⟨vs, H1, I1, r1, a, b, xs, ys, rfl, hqx, hqy, q⟩ := hh
  obtain ⟨u, v, rfl, r, r'⟩ := vals2 r1
  cases r
  cases r'
  obtain ⟨its, rv, p1, _⟩ := I1.list hqx
  obtain ⟨jts, rv2, p2, _⟩ := I1.tuple hqy
  obtain ⟨o2, ho2, _⟩ := id p2
  have IT : s1.heap.IsTuple b jts.toArray := p2
  have f5 : ∀ c, c ∈ ([s1.heap.objs.size + 4, s1.heap.objs.size + 2, s1.heap.objs.size + 3, s1.heap.objs.size, s1.heap.objs.size + 1] : List Addr) → FpOk X pins H1 c := fun c hcm => by
    have hle : s1.heap.objs.size ≤ c := by
      rcases five hcm with rfl | rfl | rfl | rfl | rfl
      · exact Nat.le_add_right _ _
      · exact Nat.le_add_right _ _
      · exact Nat.le_add_right _ _
      · exact Nat.le_refl _
      · exact Nat.le_add_right _ _
    exact I1.fpOk hle (I1.hok.fresh hle)
  refine zip_begins2 (begins_list a its.toArray) (begins_tuple b jts.toArray) p1.isList IT fun h' hz hT hO g1 g2 _ hk => wpAny_pyIter_zip hz ?_
  exact ⟨s1.heap.objs.size + 4, _, _, _, H1, rfl, I1.kept (t' := s1.toks) hk, turn_zipM p1.lt (Heap.lt_size ho2), ⟨hz, hT, ⟨_, _, hO⟩, ⟨_, g1, rfl, rfl⟩, ⟨_, g2, rfl, rfl⟩⟩, f5, q⟩
section
variable {K : PySem.W.Frag} {σ : L2.St} {H H1 : Hp} {ts : TA} {te : TE} {vs : List Nat} {a b : Addr} {xs ys : List V} {i1 i2 : Nat}
theorem rd_iZM {R : It → Hp → Prop} (h : ts σ H fun vs H1 => ∃ (a b : Addr) (xs ys : List V), vs = [.ref a, .ref b] ∧ SqL K H1 a xs ∧ SqT K H1 b ys ∧ R (ItzM K a b) H1) : iZipM K ts σ H R := h
theorem rd_atM {P : Addr → Addr → Prop} (h : SqL K H a xs) (h' : SqT K H b ys) (q : P a b) : ∃ (c d : Addr) (zs ws : List V), [V.ref a, V.ref b] = [.ref c, .ref d] ∧ SqL K H c zs ∧ SqT K H d ws ∧ P c d := ⟨a, b, xs, ys, rfl, h, h', q⟩
theorem walk_zipM {n : Nat} (hn : n = min xs.length ys.length) : Walk (ItzM K a b) n (fun H => SqL K H a xs ∧ SqT K H b ys)
    (fun i H v H' => ∃ (T : Addr) (x y : V), v = .ref T ∧ H T = none ∧ H' = upd H T (.tup [x, y]) ∧ xs[i]? = some x ∧ ys[i]? = some y) := by
  subst hn
  refine ⟨fun i _ hi q => ?_, fun _ q => ⟨xs, ys, q.1, q.2, rfl⟩, fun i H v H' _ q y => ?_⟩
  · have h1 : i < xs.length := by omega
    have h2 : i < ys.length := by omega
    exact ⟨xs, ys, xs[i], ys[i], q.1, q.2, List.getElem?_eq_getElem h1, List.getElem?_eq_getElem h2⟩
  · obtain ⟨T, x, z, h1, h2, h3, h4, h5⟩ := y
    exact ⟨T, x, z, h1, h2, h3, h4 xs q.1, h5 ys q.2⟩
open Evl in
theorem lc_zipM {Dl : Addr} {Qd : Hp → Prop} (v : Nat → V) (hl : xs.length = ys.length) (hn : xs.length ≤ 1000000) (hD : H1 Dl = none)
    (hx : H1 a = some (.lst xs)) (hy : SqT K H1 b ys) (hw : ∀ x y, wipe (((wipe σ vs).set i1 (some x)).set i2 (some y)) vs = wipe σ vs)
    (he : ∀ i x y H' (R : VK), xs[i]? = some x → ys[i]? = some y → Same H1 H' → (∀ H'', Same H' H'' → R (v i) H'') →
      te (((wipe σ vs).set i1 (some x)).set i2 (some y)) H' R)
    (hd : ∀ H', Same H1 H' → H' Dl = some (.lst ((List.range xs.length).map v)) → Qd H') :
    ∃ W : Nat → Nat → Hp → Prop, (∃ m, W 0 m (upd H1 Dl (.lst []))) ∧ ∀ i m H, W i m H →
      ((ItzM K a b).stop i H ∧ Qd H) ∨ ((ItzM K a b).go i H ∧ ∃ Nx : Hp → Prop, (∀ H', Nx H' → ∃ m', m' < m ∧ W (i + 1) m' H') ∧
        ∀ x H', (ItzM K a b).yld i H x H' → gTup K 2 (gCons (gName i1) (gCons (gName i2) gNil)) x (wipe σ vs) H' fun σ2 H2 => wipe σ2 vs = wipe σ vs ∧ tYes σ2 H2 fun b H3 =>
          if b = true then te σ2 H3 fun y H4 => ∃ acc, H4 Dl = some (.lst acc) ∧ acc.length < sizeLine ∧ Nx (upd H4 Dl (.lst (acc ++ [y]))) else Nx H3) := by
  refine lc_it (walk_zipM (n := xs.length) (xs := xs) (ys := ys) (by omega)) (fun i H' => Same H1 H' ∧ H' Dl = some (.lst ((List.range i).map v)))
    ⟨Same.new hD _, upd_same⟩ (fun i H' _ p => ⟨sqL (p.1 _ _ hx), p.1.seqT hy⟩) ?_ fun H' p => hd H' p.1 p.2
  rintro i z H H' hi ⟨s, e⟩ ⟨T, x, y, rfl, nT, rfl, ex, ey⟩
  have s' : Same H1 (upd H T (.tup [x, y])) := s.trans (Same.new nT _)
  have nDT : Dl ≠ T := ne_of_none e nT
  refine rd_gtup (xs := [x, y]) (sqT upd_same) rfl (rd_gcons (rd_gname (rd_gcons (rd_gname (rd_gnil ⟨hw x y, ?_⟩)))))
  refine rd_yes (iteT (he i x y _ _ ex ey s' fun H'' s'' => ⟨(List.range i).map v, s'' _ _ (by rw [upd_ne nDT]; exact e), ?_, ?_, ?_⟩))
  · rw [List.length_map, List.length_range, sizeLine_eq]
    omega
  · exact Same.put (s'.trans s'') hD _
  · rw [upd_same, List.range_succ, List.map_append]
    rfl
end
end Gd

/-! # super().__init__(..) in an own exception over another own one -/
namespace Gd
open PySem PySem.Spec PyProof.Rows L2
/-- a def that closes over its class and nothing else -/
structure SupScope (N P : List Str) (sc : Scope) : Prop where
  kd : sc.kind = .function
  c0 : sc.isCoroutine = false
  g0 : sc.isGenerator = false
  nd : N.Nodup
  fst : N.take P.length = P
  loc : ∀ x ∈ P, sc.names.lookup x = some .local
  noc : ∀ y ∈ sc.names, y.2 ≠ .cell
  one : ∀ y ∈ sc.names, y.2 = .free → y.1 = "__class__"
  sup : sc.names.lookup ("super" : Str) = some .globalImplicit
  cls : sc.names.lookup ("__class__" : Str) = some .free
/-- such a def as it stands behind the top: its cell holds the class at C -/
structure SupFun (P : Program) (K : PySem.W.Frag) (C : Addr) (qual : Str) (st : Stmt) (f : Addr) (fd : FuncData) : Prop where
  ex : ∃ (oc : Value) (od : Option Addr) (kV dc pm : Value) (an : Option Addr) (cda cc : Addr) (ct : Value) (sl : Array (Option Value)),
    fd = PySem.W.ksFn "__init__" qual (defArgs st) (defBody st) (defScope st) .none kV dc pm an (.ref cda) ct cc ∧ K.lookup f = some ⟨oc, od, .func fd, sl⟩ ∧ PySem.W.codeIn K (.ref cda) qual = true ∧
    (∃ (cl : Value) (cd : Option Addr) (cs : Array (Option Value)), K.lookup cc = some ⟨cl, cd, .cell (some (.ref C)), cs⟩) ∧
    ∃ (ccl : Value) (cdd : Option Addr) (vs : Array Value) (ccs : Array (Option Value)) (file : Str) (tf : Tok), K.lookup cda = some ⟨ccl, cdd, .fields vs, ccs⟩ ∧ vs[2]? = some (.str file tf) ∧ ((P.main.file : Str) == file) = true
  kp : PySem.W.keepIn K (.ref f) = true
/-- what the written part says of the class at C -/
structure SupC (P : Program) (K : PySem.W.Frag) (C : Addr) : Prop where
  cls : ∃ cd, PySem.W.clsIn K C = some cd
  sub : PySem.W.mroIn K C (.ref C) = some true
  val : PySem.W.subIn K (.ref C) (.type "ValueError") = some true
  met : PySem.W.ks_superIn K C C "__init__" = some (some (.builtin "ValueError.__init__"))
  opq : PySem.W.nsIn K cStatics "thirdparty.any" = some none
  top : (P.main.scope.names.lookup ("super" : Str)).isSome = false
section
variable {P : Program} {w : World} {K : PySem.W.Frag} {mg : Str → Option Value} {base : Heap}
theorem back_look {y : Str} {u : Value} : ∀ {ps : List Str} {us : List Value} {i : Nat}, ps.Nodup → ps[i]? = some y → us[i]? = some u → (ps.zip us).reverse.lookup y = some u := by
  intro ps us i nd hp hu
  have hm : (y, u) ∈ (ps.zip us).reverse := by
    rw [List.mem_reverse]
    exact List.mem_of_getElem? (i := i) (List.getElem?_zip_eq_some.mpr ⟨hp, hu⟩)
  cases h : (ps.zip us).reverse.lookup y with
  | none =>
    have := List.lookup_eq_none_iff.mp h _ hm
    simp at this
  | some v =>
    have hv := PySem.mem_of_lookup h
    rw [List.mem_reverse] at hv
    obtain ⟨j, hj⟩ := List.mem_iff_getElem?.mp hv
    obtain ⟨a, b⟩ := List.getElem?_zip_eq_some.mp hj
    have : j = i := by
      have h1 := (List.getElem?_eq_some_iff.mp a)
      have h2 := (List.getElem?_eq_some_iff.mp hp)
      obtain ⟨l1, e1⟩ := h1
      obtain ⟨l2, e2⟩ := h2
      exact (List.getElem_inj nd).mp (e1.trans e2.symm)
    subst this
    rw [b] at hu
    exact hu
/-- the surroundings of such a def's body -/
def cxS (P : Program) (w : World) (K : PySem.W.Frag) (mg : Str → Option Value) (base : Heap) (N : List Str) (qual : Str) (sc : Scope) (f cc : Addr) (cd : Value) (A : Around) (outer : List Env) (s : Shared) (H : Hp) : Cx :=
  { prog := P, w := w, K := K, mg := mg, base := base, A := A.deeper (PySem.W.ksEnv qual sc s.heap.objs.size f cd cc), N := N, s_0 := s, H_0 := H, env := PySem.W.ksEnv qual sc s.heap.objs.size f cd cc,
    outer := outer, stack := PySem.W.ksEnv qual sc s.heap.objs.size f cd cc :: outer, ex := [], calm := true, fn := fun _ => false, pn := [], xe := fun _ _ => False }
theorem inv_sup {N ps : List Str} {qual : Str} {sc : Scope} {f cc : Addr} {cd : Value} {A : Around} {outer : List Env} {s : Shared} {H : Hp} {us : List Value} {vs : List V} {h0 : Heap} {tk : Nat}
    (S : SupScope N ps sc) (hd : A.handled = none) (e0 : Env0 P w K mg base A outer s H) (hl : vs.length = ps.length) (r : Vals vs us)
    (hc : ∃ (o : Obj) (v : Option Value), K.lookup cc = some o ∧ o.data = .cell v)
    (hn : h0.Ns s.heap.objs.size fun x => (ps.zip us).reverse.lookup x) (hk : ∀ b o, s.heap.get? b = some o → h0.get? b = some o) :
    Inv (cxS P w K mg base N qual sc f cc cd A outer s H) [] (start N vs) H { s with heap := h0, toks := tk } := by
  obtain ⟨oc, vc, lc, dc⟩ := hc
  have bc : base.get? cc = some oc := e0.mod.kin _ _ lc
  have many : ps.length ≤ N.length := by
    have q := congrArg List.length S.fst
    rw [List.length_take] at q
    omega
  have onlyc : ∀ x c, (PySem.W.ksEnv qual sc s.heap.objs.size f cd cc).cells.lookup x = some c → x = "__class__" ∧ c = cc := by
    intro x c h
    have h' : ([(("__class__" : Str), cc)] : List (Str × Addr)).lookup x = some c := h
    have m := PySem.mem_of_lookup h'
    rw [List.mem_singleton] at m
    exact ⟨congrArg Prod.fst m, congrArg Prod.snd m⟩
  constructor
  case ok =>
    constructor
    case mod => exact e0.mod
    case kind => exact S.kd
    case glob => rfl
    case blt => rfl
    case above => exact Nat.le_refl _
    case inj =>
      intro x y c h1 h2
      rw [(onlyc x c h1).1, (onlyc y c h2).1]
    case has =>
      intro x hx
      have hx : sc.names.lookup x = some .cell ∨ sc.names.lookup x = some .free := hx
      rcases hx with hx | hx
      · exact absurd rfl (S.noc _ (PySem.mem_of_lookup hx))
      · have e := S.one _ (PySem.mem_of_lookup hx) rfl
        have e : x = "__class__" := e
        subst e
        exact ⟨cc, rfl⟩
    case cab => intro x c z; exact Bool.noConfusion (show false = true from z)
    case hd => exact fun _ => hd
    case frames => exact Around.frames_deeper e0.frames
    case stk => exact .inr ⟨rfl, rfl⟩
    case exf => intro b z; exact absurd (show b ∈ ([] : List Addr) from z) (by simp)
    case bs => exact e0.bs
    case bsz => exact e0.bsz
    case noex => intro b o _ z; exact absurd (show b ∈ ([] : List Addr) from z) (by simp)
    case exfs => intro b z; exact absurd (show b ∈ ([] : List Addr) from z) (by simp)
    case funs => exact e0.funs
    case frf => exact e0.frf
  case os => rfl
  case bare => exact e0.bare
  case base => exact Un.kept hk
  case loc =>
    refine ⟨_, hn, fun i y v h1 h2 h3 => ?_⟩
    have hi : i < vs.length := by
      unfold L2.start at h2
      by_cases hi : i < vs.length
      · exact hi
      · rw [List.getElem?_append_right (by simpa using hi), List.getElem?_replicate] at h2
        split at h2 <;> cases h2
    have ha : vs[i]? = some v := by
      unfold L2.start at h2
      rw [List.getElem?_append_left (by simpa using hi), List.getElem?_map] at h2
      cases e : vs[i]? with
      | none => rw [e] at h2; cases h2
      | some z => rw [e] at h2; cases h2; rfl
    obtain ⟨u, hu, rv⟩ := r.get ha
    have hp : ps[i]? = some y := by
      rw [← S.fst, List.getElem?_take_of_lt (by omega)]
      exact h1
    have ndp : ps.Nodup := by
      rw [← S.fst]
      exact S.nd.sublist (List.take_sublist _ _)
    exact ⟨u, rv, .inl ⟨S.loc y (List.mem_of_getElem? hp), back_look ndp hp hu⟩⟩
  case cell =>
    intro x c h
    rw [(onlyc x c h).2]
    exact ⟨vc, oc, hk _ _ (e0.bs _ _ bc).1, dc⟩
  case free => exact e0.hok.fresh (Nat.le_refl _)
  case freeC =>
    intro x c h
    rw [(onlyc x c h).2]
    exact (e0.bs _ _ bc).2
  case pin => intro p hp; exact absurd (show p ∈ ([] : List (Addr × Obj)) from hp) (by simp)
  case hok => exact e0.hok.kept hk
  case len =>
    unfold L2.start
    show _ = N.length
    rw [List.length_append, List.length_map, List.length_replicate]
    omega
end
section
variable {P : Program} {w : World} {K : PySem.W.Frag} {mg : Str → Option Value} {base : Heap}
/-- the bound __init__ of ValueError, called: the exception's args are laid anew -/
theorem call_sup {X : Cx} {pins : List (Addr × Obj)} {σ : L2.St} {H : Hp} {s : Shared} {a C u : Addr} {us : List Value} {A : Around} {Q E : Value → Shared → Prop} (T : OexC X.K C) (I : Inv X ((u, PySem.W.kxs_mw "ValueError.__init__" a) :: pins) σ H s)
    (e : H a = some (exo a C none)) (hl : us.length ≤ sizeLine) (h : ∀ s', Inv X pins σ H s' → Q .none s') : wpAny (model X.prog X.w) A (call (.ref u) us) Q E s := by
  obtain ⟨nm, q, N, bs, bm, sn, sub, ab, col, dd, k0, k1, k2, k3, k5, hC, hbm⟩ := T.cls
  obtain ⟨t1, ho⟩ := exo_at I.hok e
  have hu : s.heap.get? u = some (PySem.W.kxs_mw "ValueError.__init__" a) := ClX.pin_at I
  have J := ClX.unpin I
  have cC := J.kIn _ _ hC
  obtain ⟨hp, g, d, t, os⟩ := s
  have eu : upd H a (exo a C none) = H := by
    funext b
    by_cases hb : b = a
    · rw [hb, upd_same, e]
    · rw [upd_ne hb]
  have y1 : (Value.type "method-wrapper" == Value.type "method") = false := by decide
  have y2 : (Value.type "method-wrapper" == Value.type "builtin_function_or_method") = false := by decide
  have y3 : (Value.type "method-wrapper" == Value.type "method-wrapper") = true := by decide
  refine wpAny_call (codeAny_of_tree ?_)
  show wpAny (model X.prog X.w) A.in1 (callAny (.ref u) ⟨us, []⟩) _ _ ⟨hp, g, d, t, os⟩
  unfold callAny
  refine wpAny_bind (wpAny_load hu ?_)
  dsimp only
  rw [y1, y2, y3]
  rw [if_pos (by rfl)]
  refine PySem.W.KFB.if_so (by decide) ?_
  have FV := PySem.F.excBase_ValueError
  refine wpAny_bind (PySem.W.check_bound_init FV.toExcCallFacts cC ho rfl ?_)
  refine wpAny_bind (wpAny_pure (wpAny_pure ?_))
  refine ⟨plainId_quiet FV.init.plain _, codeAny_builtin FV.initEntry ?_⟩
  refine PySem.W.exc_init_tree (cls := .ref C) (t0 := t1) (dv := none) (c2 := .none) (c3 := .none) (b4 := .bool false) ho hl fun h' k hx _ => ?_
  have W := J.write (t' := t) (x := a) (e := a) (o := exo a C none) (by rw [e]; exact True.intro) (.inl rfl) k ⟨_, hx⟩ (exo_ok hx)
  rw [eu] at W
  exact h _ W
theorem sup_step {N ps : List Str} {qual : Str} {sc : Scope} {f cc cda : Addr} {A : Around} {outer : List Env} {s0 s : Shared} {H0 H : Hp} {σ : L2.St} {st : Stmt} {kV dc pm ct oc : Value} {an od : Option Addr} {sl : Array (Option Value)}
    {a C : Addr} {p0 p1 p2 p3 p4 : Pos} {ar : Arg} {e : Expr} {es : List Expr} {ta : TA} {R : Hp → Prop} {body : List Stmt}
    (S : SupScope N ps sc) (T : OexC K C) (FC : SupC P K C) (hm : mg "super" = none)
    (lk : K.lookup f = some ⟨oc, od, .func (PySem.W.ksFn "__init__" qual (defArgs st) (defBody st) (defScope st) .none kV dc pm an (.ref cda) ct cc), sl⟩)
    (hcell : ∃ (cl : Value) (cd : Option Addr) (cs : Array (Option Value)), K.lookup cc = some ⟨cl, cd, .cell (some (.ref C)), cs⟩)
    (hcode : ∃ (ccl : Value) (cdd : Option Addr) (vs : Array Value) (ccs : Array (Option Value)) (file : Str) (tf : Tok), K.lookup cda = some ⟨ccl, cdd, .fields vs, ccs⟩ ∧ vs[2]? = some (.str file tf) ∧ ((P.main.file : Str) == file) = true)
    (hf : ((defArgs st).posonlyargs ++ (defArgs st).args).head? = some ar) (h0 : ps[0]? = some ar.arg) (hN : N[0]? = some ar.arg) (hσ : σ[0]? = some (some (.ref a)))
    (I : Inv (cxS P w K mg base N qual sc f cc (.ref cda) A outer s0 H0) [] σ H s) (ea : H a = some (exo a C none))
    (ha : PA (cxS P w K mg base N qual sc f cc (.ref cda) A outer s0 H0) (e :: es) ta)
    (hr : ta σ H fun vs H1 => vs.length ≤ 1000 ∧ H1 a = some (exo a C none) ∧ R H1) {pl : Sem Bool}
    (hi : interactive (PySem.W.ksEnv qual sc s0.heap.objs.size f (.ref cda) cc) = false := by rfl)
    (hs : swapsWith (.Call (.Attribute (.Call (.Name "super" p0) [] [] p1) "__init__" p2) (e :: es) [] p3) none p4.line (PySem.W.ksEnv qual sc s0.heap.objs.size f (.ref cda) cc) = pure false := by rfl)
    (hc : eval (.Call (.Attribute (.Call (.Name "super" p0) [] [] p1) "__init__" p2) (e :: es) [] p3) (PySem.W.ksEnv qual sc s0.heap.objs.size f (.ref cda) cc) = (do
      let ov ← attributeBase (.Call (.Name "super" p0) [] [] p1) "__init__" (PySem.W.ksEnv qual sc s0.heap.objs.size f (.ref cda) cc) (eval (.Call (.Name "super" p0) [] [] p1) (PySem.W.ksEnv qual sc s0.heap.objs.size f (.ref cda) cc))
      standAt p2.atName
      let (g, first) ← holding [ov] (getMethod ov "__init__" pl)
      callWith p3 g first (backTo p3 (starEach (e :: es) (PySem.W.ksEnv qual sc s0.heap.objs.size f (.ref cda) cc))) []) := by rfl)
    (he : starEach (e :: es) (PySem.W.ksEnv qual sc s0.heap.objs.size f (.ref cda) cc) = (false, eval e (PySem.W.ksEnv qual sc s0.heap.objs.size f (.ref cda) cc)) :: starEach es (PySem.W.ksEnv qual sc s0.heap.objs.size f (.ref cda) cc) := by rfl)
    (hpl : (backTo p3 (starEach es (PySem.W.ksEnv qual sc s0.heap.objs.size f (.ref cda) cc))).any (·.1) = false := by rfl) :
    _root_.PySem.wpAt (model P w) (A.deeper (PySem.W.ksEnv qual sc s0.heap.objs.size f (.ref cda) cc)) (.func body (PySem.W.ksEnv qual sc s0.heap.objs.size f (.ref cda) cc))
      (exec (.Expr (.Call (.Attribute (.Call (.Name "super" p0) [] [] p1) "__init__" p2) (e :: es) [] p3) p4) (PySem.W.ksEnv qual sc s0.heap.objs.size f (.ref cda) cc))
      (fun fl s' => fl = .next ∧ ∃ H1, Inv (cxS P w K mg base N qual sc f cc (.ref cda) A outer s0 H0) [] σ H1 s' ∧ R H1) (fun _ _ => False) s := by
  obtain ⟨cd, hcd⟩ := FC.cls
  obtain ⟨cl, cdc, cs, lcc⟩ := hcell
  obtain ⟨ccl, cdd, cvs, ccs, file, tf, lcd, hv2, hfile⟩ := hcode
  obtain ⟨oD, hD1, hD2⟩ : ∃ oD, s.heap.get? C = some oD ∧ oD.data = .cls cd := by
    have hq := hcd
    unfold PySem.W.clsIn at hq
    split at hq
    · rename_i c d cd' sl' ho
      cases hq
      exact ⟨_, I.kIn _ _ ho, rfl⟩
    · cases hq
  obtain ⟨t1, ho⟩ := exo_at I.hok ea
  have KX := I.kIn
  obtain ⟨m, hns, hloc⟩ := I.loc
  have hka : sc.names.lookup ar.arg = some .local := S.loc _ (List.mem_of_getElem? h0)
  obtain ⟨u, hu, hlook⟩ := hloc 0 ar.arg (.ref a) hN hσ (.inl hka)
  obtain rfl : u = Value.ref a := hu
  have hself : m ar.arg = some (.ref a) := by
    rcases hlook with z | ⟨z, _⟩
    · exact z.2
    · have z : sc.names.lookup ar.arg = some .cell ∨ sc.names.lookup ar.arg = some .free := z
      rw [hka] at z
      rcases z with z | z <;> cases z
  obtain ⟨mb, hb, hbb⟩ := I.mod.blt
  refine ks_wpAt_Expr_any ?_ hi hs
  refine ks_wpAt_MethodCall (pl := pl) ?_ hc
  refine ks_wpAt_super_base (env := PySem.W.ksEnv qual sc s0.heap.objs.size f (.ref cda) cc) S.sup S.cls (by decide) rfl (KX _ _ lk) rfl hf rfl (KX _ _ lcd) rfl hv2 hfile FC.top ?_
  refine PySem.W.ks_loadName_global S.kd S.sup (Calls.loadGlobal_builtin (mg := mg) (mb := mb) (I.mod.glob.keeps I.bk) hm (hb.keeps I.bk) ((hbb _ (by decide)).trans (by first | boot_by_name | rfl | kernel_rfl)) ⟨rfl, ?_⟩)
  refine wpAny_loadName_free S.kd S.cls rfl ⟨_, KX _ _ lcc, rfl⟩ ?_
  refine wpAny_loadName_local S.kd hka hns hself ?_
  refine ks_wpAny_isType_cls hD1 hD2 ⟨rfl, ?_⟩
  obtain ⟨hp, g, d, t, os⟩ := s
  refine ks_wpAny_call_super hD1 hD2 ho rfl (fun c z => by cases z) (PySem.W.looks_mroIn KX FC.sub) (fun h' e1 k1 => ?_)
  have I1 : Inv (cxS P w K mg base N qual sc f cc (.ref cda) A outer s0 H0) [] σ H ⟨h', g, d, t, os⟩ := I.kept (t' := t) k1
  have J1 : PySem.W.InstAt h' a { cls := .ref C, dict := none, data := .fields #[.ref t1, .none, .none, .none, .bool false, .none] } C none := ⟨k1 _ _ ho, rfl, rfl, trivial⟩
  have hmet : PySem.W.alongIn K "__init__" ((cd.mro.dropWhile (· != .ref C)).drop 1) = some (some (.builtin "ValueError.__init__")) := by
    have z := FC.met
    unfold PySem.W.ks_superIn at z
    rw [hcd] at z
    exact z
  refine PySem.W.kxs_getMethod PySem.W.kxs_ValueError e1 (PySem.W.looks_opaque I1.kIn FC.opq) (l₀ := cd.mro) (fun A Q E s k q => wpAny_bind ((PySem.W.looks_clsIn I1.kIn hcd) A _ E s k (wpAny_pure q))) rfl I1.kIn hmet
    (J1.type.andThen (PySem.W.looks_subIn I1.kIn FC.val)) (PySem.W.ks_ne I1.kIn J1 hcd) (by decide) ?_
  have I2 := ClX.pin_new (t' := t + 1) (o := PySem.W.kxs_mw "ValueError.__init__" a) (a := h'.objs.size) I1 (fun b o q => Heap.get?_push_of_some _ q) (Nat.le_refl _) (Heap.get?_push_at rfl rfl) (fun v z => nomatch z)
  have run := ha.run p3 _ _ σ H _ I2 hr
  have run' := run
  change wpAny (model P w) (A.deeper (PySem.W.ksEnv qual sc s0.heap.objs.size f (.ref cda) cc)) (callWith p3 (.ref h'.objs.size) [] (backTo p3 (starEach (e :: es) (PySem.W.ksEnv qual sc s0.heap.objs.size f (.ref cda) cc))) []) _ _ _
  have he2 : starEach (e :: es) (cxS P w K mg base N qual sc f cc (.ref cda) A outer s0 H0).env = (false, eval e (PySem.W.ksEnv qual sc s0.heap.objs.size f (.ref cda) cc)) :: starEach es (PySem.W.ksEnv qual sc s0.heap.objs.size f (.ref cda) cc) := he
  rw [he2] at run
  rw [he]
  refine PySem.W.kxs_callWith (i := "ValueError.__init__") (x := a) (by show (false || (backTo p3 (starEach es (PySem.W.ksEnv qual sc s0.heap.objs.size f (.ref cda) cc))).any (·.1)) = false; rw [hpl]; rfl) ?_
  refine Calls.evalArgs_plain (wpAny_mono run (fun us s1 ⟨vs, H1, I3, r1, hl, e3, hR⟩ => ⟨ClX.pin_at I3, ?_⟩) fun _ _ z => z)
  have hlen : us.length ≤ sizeLine := by
    rw [← r1.length, sizeLine_eq]
    omega
  exact call_sup T I3 e3 hlen fun s' J => ⟨rfl, H1, J, hR⟩
/-- a def whose first step is super().__init__(..), by the rest of its body -/
theorem sup_ok {C : Addr} {qual : Str} {st : Stmt} {f : Addr} {fd : FuncData} {N ps : List Str} {k : Nat} {sp : Sp} {ar : Arg} {p0 p1 p2 p3 p4 : Pos} {e : Expr} {es : List Expr} {rest : List Stmt}
    (F : SupFun P K C qual st f fd) (S : SupScope N ps (defScope st)) (T : OexC K C) (FC : SupC P K C) (hm : mg "super" = none) (len : ∀ vs H Q E, sp vs H Q E → vs.length = ps.length)
    (hf : ((defArgs st).posonlyargs ++ (defArgs st).args).head? = some ar) (h0 : ps[0]? = some ar.arg) (hN : N[0]? = some ar.arg)
    (hbd : defBody st = .Expr (.Call (.Attribute (.Call (.Name "super" p0) [] [] p1) "__init__" p2) (e :: es) [] p3) p4 :: rest)
    (body : ∀ (cc cda : Addr) (A : Around) (outer : List Env) (s : Shared) (H : Hp) (vs : List V) (Q : VK) (E : XK), sp vs H Q E →
      ∃ (a : Addr) (ta : TA) (t : TS) (pl : Sem Bool), (start N vs)[0]? = some (some (.ref a)) ∧ H a = some (exo a C none) ∧ PA (cxS P w K mg base N qual (defScope st) f cc (.ref cda) A outer s H) (e :: es) ta ∧ PSs (cxS P w K mg base N qual (defScope st) f cc (.ref cda) A outer s H) rest t ∧
        (ta (start N vs) H fun ws H1 => ws.length ≤ 1000 ∧ H1 a = some (exo a C none) ∧ t { nx := fun _ H' => Q .non H', rt := Q } (start N vs) H1) ∧
        interactive (PySem.W.ksEnv qual (defScope st) s.heap.objs.size f (.ref cda) cc) = false ∧
        swapsWith (.Call (.Attribute (.Call (.Name "super" p0) [] [] p1) "__init__" p2) (e :: es) [] p3) none p4.line (PySem.W.ksEnv qual (defScope st) s.heap.objs.size f (.ref cda) cc) = pure false ∧
        eval (.Call (.Attribute (.Call (.Name "super" p0) [] [] p1) "__init__" p2) (e :: es) [] p3) (PySem.W.ksEnv qual (defScope st) s.heap.objs.size f (.ref cda) cc) = (do
          let ov ← attributeBase (.Call (.Name "super" p0) [] [] p1) "__init__" (PySem.W.ksEnv qual (defScope st) s.heap.objs.size f (.ref cda) cc) (eval (.Call (.Name "super" p0) [] [] p1) (PySem.W.ksEnv qual (defScope st) s.heap.objs.size f (.ref cda) cc))
          standAt p2.atName
          let (g, first) ← holding [ov] (getMethod ov "__init__" pl)
          callWith p3 g first (backTo p3 (starEach (e :: es) (PySem.W.ksEnv qual (defScope st) s.heap.objs.size f (.ref cda) cc))) []) ∧
        starEach (e :: es) (PySem.W.ksEnv qual (defScope st) s.heap.objs.size f (.ref cda) cc) = (false, eval e (PySem.W.ksEnv qual (defScope st) s.heap.objs.size f (.ref cda) cc)) :: starEach es (PySem.W.ksEnv qual (defScope st) s.heap.objs.size f (.ref cda) cc) ∧
        (backTo p3 (starEach es (PySem.W.ksEnv qual (defScope st) s.heap.objs.size f (.ref cda) cc))).any (·.1) = false) : FnOk P w K mg base CX0 (k + 1) f fd ps sp := by
  obtain ⟨oc, od, kV, dc, pm, an, cda, cc, ct, sl, rfl, lk, hcd, hcell, hcode⟩ := F.ex
  constructor
  · exact len
  intro A outer s H args us vs Q E hr e0 hb r h
  have many := len _ _ _ _ h
  have KX : K.In s.heap := e0.mod.kin.keeps fun b o q => (e0.bs b o q).1
  have lim : s.heap.NoLimit := e0.mod.nolimit.keeps fun b o q => (e0.bs b o q).1
  refine ks_codeAny_call_defAt hr.depth (KX _ _ lk) rfl lim (PySem.W.codeRec_of KX hcd) rfl hb S.noc (fun y hy => S.loc y.1 (List.of_mem_zip (show (y.1, y.2) ∈ ps.zip us from hy)).1) (fun h0' hns hk => ?_) S.c0 S.g0 S.kd
  obtain ⟨a, ta, t, pl, hσ, ea, hPA, hPS, hread, hi, hs, hc, he, hpl⟩ := body cc cda A outer s H vs Q E h
  have I := inv_sup (P := P) (w := w) (qual := qual) (f := f) (cd := .ref cda) (tk := s.toks + (ps.zip us).length) S hr.hd e0 many r (let ⟨cl, cd, cs, lc⟩ := hcell; ⟨_, _, lc, rfl⟩) hns hk
  show _root_.PySem.wpAt (model P w) (A.deeper (PySem.W.ksEnv qual (defScope st) s.heap.objs.size f (.ref cda) cc)) (.func (defBody st) (PySem.W.ksEnv qual (defScope st) s.heap.objs.size f (.ref cda) cc)) (execs (defBody st) (PySem.W.ksEnv qual (defScope st) s.heap.objs.size f (.ref cda) cc)) _ _ _
  rw [hbd]
  refine ks_wpAt_execs_cons (ks_wpAt_mono (sup_step (R := fun H1 => t { nx := fun _ H' => Q .non H', rt := Q } (start N vs) H1) S T FC hm lk hcell hcode hf h0 hN hσ I ea hPA hread (pl := pl) hi hs hc he hpl) ?_ fun _ _ z => z.elim)
  rintro fl s' ⟨rfl, H1, J, hR⟩
  refine _root_.PySem.wpAt_of_wpAny (wpAny_mono (hPS.run [] s' (start N vs) H1 _ J hR) ?_ fun _ _ z => False.elim z)
  rintro fl2 s2 z
  cases fl2 with
  | ret u =>
    obtain ⟨v, σ', H', J', rv, q⟩ := z
    exact ⟨v, H', J'.os, J'.bare, J'.base, J'.hok, rv, q⟩
  | next =>
    obtain ⟨σ', H', J', q⟩ := z
    exact ⟨V.non, H', J'.os, J'.bare, J'.base, J'.hok, rfl, q⟩
  | brk => obtain ⟨_, _, _, q⟩ := z; exact q.elim
  | cont => obtain ⟨_, _, _, q⟩ := z; exact q.elim
end
end Gd

/-! # several except clauses with names -/
namespace Gd
open PySem PySem.Spec PyProof.Rows L2
/-- an except clause: the class, the place of its name, what its suite reads -/
abbrev Cl3 := Value × Nat × (Addr → Value → Option Addr → TS)
/-- what the clauses want of an exception -/
def wNam (K : PySem.W.Frag) (W0 : WX) (D : Ends) : List Cl3 → WX
  | [] => W0
  | q :: r => fun cls d σ H => ∃ b, PySem.W.exmOne K cls q.1 = some b ∧
      (b = true → ∀ e, H e = none → q.2.2 e cls d ⟨fun σ1 H1 => D.nx (σ1.set q.2.1 none) H1, D.rt, fun σ1 H1 => D.bk (σ1.set q.2.1 none) H1, fun σ1 H1 => D.ct (σ1.set q.2.1 none) H1⟩ (σ.set q.2.1 (some (.ref e))) H) ∧
      (b = false → wNam K W0 D r cls d σ H)
inductive NamOk (X : Cx) : List ExceptHandler → List Cl3 → Prop
  | nil : NamOk X [] []
  | cons {y nm : Str} {cv : Value} {j : Nat} {rd : Addr → Value → Option Addr → TS} {st : Stmt} {sts : List Stmt} {q1 q2 : Pos} {hs : List ExceptHandler} {l : List Cl3} (hn : Names X y cv) (hj : X.N[j]? = some nm) (hk : X.env.kindOf nm = some .local)
      (hs1 : ∀ (e : Addr) (ob : Obj) (cls : Value) (d : Option Addr) (pn : List (Addr × Obj)), Zc cls d ob → (∃ vs, ob.data = .fields vs) → PSs (X.suite e ((e, ob) :: pn)) (st :: sts) (rd e cls d)) (r : NamOk X hs l) :
      NamOk X (.ExceptHandler (some (.Name y q1)) (some nm) (st :: sts) q2 :: hs) ((cv, j, rd) :: l)
section
variable {X : Cx} {body : List Stmt} {hd : ExceptHandler} {hs : List ExceptHandler} {l : List Cl3} {pos : Pos} {rb : WX → TS} {W0 : WX}
theorem ps_tryN (h1 : X.stack = X.env :: X.outer) (h2 : X.env.frame = some X.env.locals) (nd : X.N.Nodup) (tk0 : Takes X W0)
    (hb : ∀ (W : WX) (pn : List (Addr × Obj)) (xe : Value → Shared → Prop), Takes (X.tr pn xe) W → PassesOwn (model X.prog X.w) X.A X.env xe → PSs (X.tr pn xe) body (rb W))
    (ho : NamOk X (hd :: hs) l) : PS X (.Try body (hd :: hs) [] [] pos) (fun D σ H => rb (wNam X.K W0 D l) D σ H) := by
  constructor
  intro pins s σ H D I hread
  have okX := I.ok
  have frX : X.A.frames = some (X.env :: X.outer) := okX.frames.trans (by rw [h1])
  refine wpAny_Try_except ?_
  let after : Value → Shared → Prop := fun e t1 => wpAny (model X.prog X.w) X.A (noteFrame e X.env) (fun _ t2 => wpAny (model X.prog X.w) X.A (setFlight e none) (fun _ t3 => wpAny (model X.prog X.w) X.A (handleBy e X.env (hd :: hs)) (SP X pins D) X.xe t3) X.xe t2) X.xe t1
  have caught : Takes (X.tr (X.pn ++ pins) after) (wNam X.K W0 D l) := by
    intro u t hx
    obtain ⟨e, B, sI, pins', σ1, H1, cls, d, rfl, J', nb, up, sky, ne, os, ag, want⟩ := hx
    have J : Inv X pins σ1 H1 sI := J'.ofTry okX
    show wpAny (model X.prog X.w) X.A (noteFrame (.ref e) X.env) _ _ _
    refine Sky.land Zc.steady frX h2 (h1 ▸ sky) fun g1 fl1 up1 => ?_
    have J1 : Inv X pins σ1 H1 { t with heap := g1 } := J.landed nb fl1.1 (up.trans up1) os ag
    obtain ⟨ob1, vs1, at1, z1, dt1⟩ := fl1.there
    have apart : e ∉ frs (X.env :: X.outer) := fun hm => by
      obtain ⟨_, o', at', nf⟩ := fl1.2.2.1.mem hm
      rw [at1] at at'
      cases at'
      exact nf _ dt1
    have eL : e ≠ X.env.locals := fun z => apart (List.mem_filterMap.mpr ⟨X.env, List.mem_cons_self, by rw [h2, z]⟩)
    have eF : e ∉ X.fs := fun hm => by
      obtain ⟨en, hen, q⟩ := List.mem_filterMap.mp hm
      exact apart (List.mem_filterMap.mpr ⟨en, List.mem_cons_of_mem _ hen, q⟩)
    have S1 := J1.suite at1 dt1 ne eL eF
    have LT : PySem.W.Looks (model X.prog X.w) g1 (typeOf (.ref e)) cls := fun A Q E t k q => wpAny_typeOf_ref (k _ _ at1) (by rw [z1.1]; exact q)
    have all : ∀ {hs' : List ExceptHandler} {l' : List Cl3}, NamOk X hs' l' → wNam X.K W0 D l' cls d σ1 H1 → wpAny (model X.prog X.w) X.A (handleBy (.ref e) X.env hs') (SP X pins D) X.xe { t with heap := g1 } := by
      intro hs' l' ok'
      induction ok' with
      | nil =>
        intro want
        refine wpAny_handleBy_nil ?_
        obtain ⟨k1, k2, k3, oe, vs, T, oT, ts', he, hz, hd', hv1, hr⟩ := id fl1
        unfold PySem.passOn
        refine wpAny_bind (wpAny_field he hd' hv1 ?_)
        have noT : ¬ ((Value.ref T == Value.none) = true) := by simp
        rw [if_neg noT]
        have on : wpAny (model X.prog X.w) X.A (setFlight (.ref e) X.env.frame) (fun _ t4 => wpAny (model X.prog X.w) X.A (throw (.ref e) : Sem Flow) (SP X pins D) X.xe t4) X.xe { t with heap := g1 } := by
          rw [h2]
          refine HandSPX.setFlight_upZ fl1 fun g2 hh2 up2 => wpAny_throw (tk0 _ _ ?_)
          exact ⟨e, B, sI, pins, σ1, H1, cls, d, rfl, J, nb, (up.trans up1).trans up2, .inr (.inr (h1 ▸ hh2)), ne, os, ag, want⟩
        first
          | exact wpAny_bind on
          | exact wpAny_bind (wpAny_pure (wpAny_bind on))
      | @cons y nm cv j rd st sts q1 q2 hs2 l2 hn hj hk hs1 r ih =>
        intro want
        obtain ⟨b, hb1, yes, no⟩ := want
        refine wpAny_handleBy_cons (codeAny_handlers_test ?_) (by intro q; cases q)
        have LM := PySem.W.exm_one (M := model X.prog X.w) J1.kIn LT hb1
        have named : ∀ {Q E : Value → Shared → Prop}, Q cv { t with heap := g1 } → wpAny (model X.prog X.w) (X.A.mark (some (.ref e))) (eval (.Name y q1) X.env) Q E { t with heap := g1 } := by
          intro Q E q
          rcases hn with ⟨hg, hdb, hm | ⟨hm, hv, hnn⟩⟩
          · exact ld_glob (X := X.suite e ((e, ob1) :: (X.pn ++ pins))) S1 hg hm q hdb
          · exact ld_blt (X := X.suite e ((e, ob1) :: (X.pn ++ pins))) S1 hg hm hv q hnn hdb
        refine named (LM.here ?_)
        cases b with
        | false => exact ih (no rfl)
        | true =>
          refine codeAny_handlers_suite_as (HandSPX.lands_againZ fl1 fun g2 fl2 up2 => ?_)
          have J2 : Inv X pins σ1 H1 { t with heap := g2 } := J.landed nb fl2.1 ((up.trans up1).trans up2) os ag
          obtain ⟨ob2, vs2, at2, z2, dt2⟩ := fl2.there
          have S2 := J2.suite at2 dt2 ne eL eF
          refine store_ok (X := X.suite e ((e, ob2) :: (X.pn ++ pins))) (v := .ref e) S2 nd hj (.inl hk) rfl (fun t5 S5 => ?_) (.inr hk)
          refine wpAny_mono ((hs1 e ob2 cls d (X.pn ++ pins) z2 ⟨_, dt2⟩).run [] t5 _ H1 _ S5 (yes rfl e ne)) ?_ fun _ _ z => False.elim z
          have gone : ∀ {σ6 : L2.St} {H6 : Hp} {R : Shared → Prop} {t6 : Shared}, Inv (X.suite e ((e, ob2) :: (X.pn ++ pins))) [] σ6 H6 t6 → (∀ t7, Inv X pins (σ6.set j none) H6 t7 → R t7) →
              wpAny (model X.prog X.w) X.A (do bindName X.env nm .none; unbindBehindTheSuite X.env nm q2) (fun _ t7 => R t7) X.xe t6 := fun S6 hq => gone_ok (S6.unsuite okX) nd hj hk hq
          intro f t6 z
          cases f with
          | ret u =>
            obtain ⟨v6, σ6, H6, S6, r6, q6⟩ := z
            exact gone S6 fun t7 J7 => ⟨v6, _, H6, J7, r6, q6⟩
          | next =>
            obtain ⟨σ6, H6, S6, q6⟩ := z
            exact gone S6 fun t7 J7 => ⟨_, H6, J7, q6⟩
          | brk =>
            obtain ⟨σ6, H6, S6, q6⟩ := z
            exact gone S6 fun t7 J7 => ⟨_, H6, J7, q6⟩
          | cont =>
            obtain ⟨σ6, H6, S6, q6⟩ := z
            exact gone S6 fun t7 J7 => ⟨_, H6, J7, q6⟩
    exact all ho want
  refine wpAny_mono ((hb _ (X.pn ++ pins) after caught PassesOwn.looking).run [] s σ H D (I.toTry _) hread) ?_ fun e t z => z
  intro f t1 z
  cases f with
  | ret u =>
    obtain ⟨v, σ1, H1, J1, r, q⟩ := z
    exact ⟨v, σ1, H1, J1.ofTry okX, r, q⟩
  | next =>
    obtain ⟨σ1, H1, J1, q⟩ := z
    exact wpAny_execs_nil ⟨σ1, H1, J1.ofTry okX, q⟩
  | brk =>
    obtain ⟨σ1, H1, J1, q⟩ := z
    exact ⟨σ1, H1, J1.ofTry okX, q⟩
  | cont =>
    obtain ⟨σ1, H1, J1, q⟩ := z
    exact ⟨σ1, H1, J1.ofTry okX, q⟩
end
end Gd
/-! # the end of a law whose defs make lambdas: the tables of their code objects are tracked -/
namespace Gd
open PySem PySem.Spec PyProof.Rows L2
section
open Att
theorem law_callGT {P : Program} {w : World} {K : PySem.W.Frag} {mg mb : Str → Option Value} {k : Nat} {fa a : Addr} {cs : List (Addr × Addr)} {fd : FuncData} {x : Str} {sp : Sp} {s : Shared} {vs : List Value} {ns : List Int}
    (KX : K.In s.heap) (hns : s.heap.Ns mainGlobals mg) (hb : s.heap.Ns builtinsNs mb) (hbb : ∀ x : Str, x ≠ "__name__" → mb x = bootBuiltins x) (hlim : s.heap.NoLimit) (hg : s.gens = #[])
    (tT : ∀ p ∈ cs, s.heap.get? p.2 = some (PySem.W.tabObj #[])) (tK : ∀ p ∈ cs, K.lookup p.2 = none) (tC : ∀ p ∈ cs, PySem.W.CodeHd s.heap p.1 p.2)
    (bmod : ∃ (bm : Addr) (ob : Obj), mg "__builtins__" = some (.ref bm) ∧ bm ≠ builtinsNs ∧ s.heap.get? bm = some ob ∧ ob.cls = .type "module" ∧ ob.dict = some builtinsNs ∧ ob.data = .plain)
    (ha : s.heap.get? a = some { cls := .type "list", data := .seq vs.toArray }) (hi : IntsAre vs ns) (hl : ns.length ≤ sizeLine) (hr : Room k callerA)
    (F : ∀ base : Heap, K.In base → base.Ns mainGlobals mg → (∀ p ∈ cs, LamX.TabB base mg p.1 p.2) → FnG P w K mg base CX0 k fa fd [x] sp)
    (hbind : ∀ (s : Shared) (u : Value), BindsTo s fd ⟨[u], []⟩ [(x, u)])
    (hsp : ∀ H : Hp, (∀ p ∈ cs, H p.2 = some (.tbl #[])) → SqL K H a (ns.map V.int) → sp [.ref a] H (fun v _ => v = .bl true) fun _ _ _ => False) :
    codeAny (model P w) callerA (.call (.ref fa) ⟨[.ref a], []⟩)
      (fun r s' => r = .ok (.ret (.bool true)) ∧ OldK s.heap s'.heap ∧ s'.os = s.os ∧ AllBare s'.gens) s := by
  have rv := vals_ints hi
  have many := hi.length
  have main : ∀ H : Hp, (∀ b u, H b = some u → (b = a ∧ u = .frz { cls := .type "list", data := .seq vs.toArray } (.lst (ns.map V.int))) ∨ ((∃ p ∈ cs, p.2 = b) ∧ u = .tbl #[])) → (∀ p ∈ cs, H p.2 = some (.tbl #[])) →
      SqL K H a (ns.map V.int) → (H a ≠ none → K.lookup a = none) →
      codeAny (model P w) callerA (.call (.ref fa) ⟨[.ref a], []⟩) (fun r s' => r = .ok (.ret (.bool true)) ∧ OldK s.heap s'.heap ∧ s'.os = s.os ∧ AllBare s'.gens) s := by
    intro H kind tabs hS hK
    have ok : HOk P w H s.heap := by
      intro b u z
      rcases kind b u z with ⟨rfl, rfl⟩ | ⟨⟨p, hp, rfl⟩, rfl⟩
      · exact ⟨ha, by rw [List.length_map]; exact hl, vs, _, rv, ha⟩
      · exact tT p hp
    -- what is neither the script nor a table is not tracked
    have off : ∀ {b : Addr} {o : Obj}, s.heap.get? b = some o → o ≠ { cls := .type "list", data := .seq vs.toArray } → o ≠ PySem.W.tabObj #[] → H b = none := by
      intro b o q n1 n2
      cases z : H b with
      | none => rfl
      | some u =>
        rcases kind b u z with ⟨rfl, _⟩ | ⟨⟨p, hp, rfl⟩, _⟩
        · exact absurd (Option.some.inj (q.symm.trans ha)) n1
        · exact absurd (Option.some.inj (q.symm.trans (tT p hp))) n2
    have into : ∀ {b : Addr} {o : Obj}, s.heap.get? b = some o → o ≠ { cls := .type "list", data := .seq vs.toArray } → o ≠ PySem.W.tabObj #[] → (hidT s.heap H).get? b = some o := fun q n1 n2 => hidT_get q (off q n1 n2)
    have ns_ : ∀ {b : Addr} {m : Str → Option Value}, s.heap.Ns b m → (hidT s.heap H).Ns b m := by
      rintro b m ⟨o, es, ep, q, d, z⟩
      refine ⟨o, es, ep, into q (fun e => ?_) (fun e => ?_), d, z⟩
      · rw [e] at d
        cases d
      · rw [e] at d
        cases d
    have KB : K.In (hidT s.heap H) := by
      intro b o q
      refine hidT_get (KX b o q) ?_
      cases z : H b with
      | none => rfl
      | some u =>
        rcases kind b u z with ⟨rfl, _⟩ | ⟨⟨p, hp, rfl⟩, _⟩
        · rw [hK (by rw [z]; exact fun y => nomatch y)] at q
          cases q
        · rw [tK p hp] at q
          cases q
    obtain ⟨mc, l1, l2⟩ := hlim
    have M : Mod K mg (hidT s.heap H) := ⟨KB, ns_ hns, ⟨mb, ns_ hb, hbb⟩, mc, ns_ l1, l2⟩
    have TB : ∀ p ∈ cs, LamX.TabB (hidT s.heap H) mg p.1 p.2 := by
      intro p hp
      obtain ⟨ob0, es0, ep0, g0, d0, _⟩ := hns
      constructor
      · obtain ⟨oc, us, fl, tf, fg, tg, inF, tx, tt, q, qc, qd, rest⟩ := tC p hp
        refine ⟨oc, us, fl, tf, fg, tg, inF, tx, tt, into q (fun e => ?_) (fun e => ?_), qc, qd, rest⟩
        · rw [e] at qc
          have qc : Value.type "list" = Value.type "code" := qc
          simp at qc
        · rw [e] at qc
          cases qc
      · obtain ⟨bm, ob, b1, b2, b3, b4, b5, b6⟩ := bmod
        refine ⟨bm, ob, b1, b2, fun e => ?_, fun e => ?_, into b3 (fun e => ?_) (fun e => ?_), b4, b5, b6⟩
        · rw [e, g0] at b3
          cases b3
          rw [d0] at b6
          cases b6
        · rw [e, tT p hp] at b3
          cases b3
          cases b6
        · rw [e] at b6
          cases b6
        · rw [e] at b6
          cases b6
      · intro e
        rw [e, tT p hp] at g0
        cases g0
        cases d0
    have e0 : Env0 P w K mg (hidT s.heap H) callerA [] s H := ⟨rfl, M, fun b o q => of_hidT q, Nat.le_of_eq (hidT_size _ _), trivial, (fun b z => by cases z), ok, .of_eq hg⟩
    refine codeAny_mono ((F _ KB (ns_ hns) TB).run callerA [] s H ⟨[.ref a], []⟩ [.ref a] [.ref a] _ _ hr rfl e0 (hbind s (.ref a)) (.cons rfl .nil) (hsp H tabs hS)) ?_
    rintro (e | fl) s' h
    · exact (show False from h).elim
    cases fl with
    | next => exact (show False from h).elim
    | brk => exact (show False from h).elim
    | cont => exact (show False from h).elim
    | ret u =>
      obtain ⟨v, H', os, bare, un, ok', rel, q⟩ := h
      obtain rfl : v = .bl true := q
      obtain rfl : u = Value.bool true := rel
      have grown : ∀ p ∈ cs, ∃ more : Array Value, s'.heap.get? p.2 = some (PySem.W.tabObj more) := fun p hp => by
        obtain ⟨more, z⟩ := un.tbls p.2 #[] (tabs p hp)
        exact ⟨_, ok' p.2 _ z⟩
      have stay : ∀ {b : Addr} {o : Obj}, s.heap.get? b = some o → (¬ ∃ p ∈ cs, p.2 = b) → s'.heap.get? b = some o := by
        intro b o q no
        cases z : H b with
        | none => exact un.keep b o q z (fun y => by cases y) (fun y => by cases y)
        | some u =>
          rcases kind b u z with ⟨rfl, rfl⟩ | ⟨y, _⟩
          · obtain ⟨q1, _⟩ := ok b _ z
            obtain ⟨q2, _⟩ := ok' b _ (un.frzs b _ _ z)
            rw [q] at q1
            cases q1
            exact q2
          · exact absurd y no
      refine ⟨rfl, ⟨fun b o q => ?_, fun b o q => ?_⟩, os, bare⟩
      · by_cases hb : ∃ p ∈ cs, p.2 = b
        · obtain ⟨p, hp, rfl⟩ := hb
          obtain ⟨more, hm⟩ := grown p hp
          rw [tT p hp] at q
          cases q
          exact .inr (.inl ⟨((tC p hp).tab (tT p hp)).isCodeTable, rfl, #[], more, rfl, by rw [Array.empty_append]; exact hm⟩)
        · exact .inl (stay q hb)
      · by_cases hb : ∃ p ∈ cs, p.2 = b
        · obtain ⟨p, hp, rfl⟩ := hb
          obtain ⟨more, hm⟩ := grown p hp
          exact ⟨_, hm⟩
        · exact ⟨o, stay q hb⟩
  have aT : ∀ p ∈ cs, p.2 ≠ a := fun p hp e => by
    have q := tT p hp
    rw [e, ha] at q
    cases q
  open Classical in
  cases hk : K.lookup a with
  | some o =>
    have q := KX a o hk
    rw [ha] at q
    cases q
    refine main (fun b => if ∃ p ∈ cs, p.2 = b then some (.tbl #[]) else none) (fun b u z => ?_) (fun p hp => if_pos ⟨p, hp, rfl⟩) (.inr ⟨_, vs.toArray, _, hk, rfl, rfl, rfl, ?_, by simpa using rv⟩) (fun z => absurd (if_neg ?_) z)
    · by_cases h : ∃ p ∈ cs, p.2 = b
      · exact .inr ⟨h, (Option.some.inj ((if_pos h).symm.trans z)).symm⟩
      · exact absurd ((if_neg h).symm.trans z) (fun y => nomatch y)
    · rw [List.size_toArray, many]
      exact hl
    · rintro ⟨p, hp, e⟩
      exact aT p hp e
  | none =>
    refine main (fun b => if b = a then some (.frz { cls := .type "list", data := .seq vs.toArray } (.lst (ns.map V.int))) else if ∃ p ∈ cs, p.2 = b then some (.tbl #[]) else none) (fun b u z => ?_)
      (fun p hp => (if_neg (aT p hp)).trans (if_pos ⟨p, hp, rfl⟩)) (.inl (.inr ⟨{ cls := .type "list", data := .seq vs.toArray }, if_pos rfl⟩)) fun _ => hk
    by_cases e : b = a
    · exact .inl ⟨e, (Option.some.inj ((if_pos e).symm.trans z)).symm⟩
    · have z := (if_neg e).symm.trans z
      by_cases h : ∃ p ∈ cs, p.2 = b
      · exact .inr ⟨h, (Option.some.inj ((if_pos h).symm.trans z)).symm⟩
      · exact absurd ((if_neg h).symm.trans z) (fun y => nomatch y)
/-- the end: the tables of the defs named in xs -/
theorem walkGT {l : PySem.W.OpenLaw} {n k : Nat} {q : Program} {loose : List Str} {XP : (Str → Option Value) → Heap → Prop} {YP : World → Heap → Prop}
    {d : DefRec} {K : Params → PySem.W.Frag} {x : Str}
    (hn : l.most = some n) (hn2 : n ≤ sizeLine) (hdf : d.params.defaults = []) (hr : Room k callerA)
    (hY : ∀ (w : World) (h : Heap), YP w h → (K w.params).In h)
    (F : ∀ (w : World) (mg : Str → Option Value) (fa : Addr) (h : Heap), (K w.params).In h → h.Ns mainGlobals mg → mg d.name = some (.ref fa) →
      ∃ (fd : FuncData) (cs : List (Addr × Addr)) (sp : Sp), (∀ (s : Shared) (u : Value), BindsTo s fd ⟨[u], []⟩ [(x, u)]) ∧
        (∀ p ∈ cs, (K w.params).lookup p.2 = none ∧ ∃ (y : Str) (e : DefRec), (recsOf q).find? (fun e => e.name == y) = some e ∧ PySem.W.tabIn (K w.params) y = some p) ∧
        (∀ (H : Hp) (a : Addr) (ns : List Int), ns.length ≤ n → (∀ z ∈ ns, Builtin.Int.intBits z ≤ 1048576) → (∀ p ∈ cs, H p.2 = some (.tbl #[])) → SqL (K w.params) H a (ns.map V.int) → sp [.ref a] H (fun v _ => v = .bl true) fun _ _ _ => False) ∧
        ∀ base : Heap, (K w.params).In base → base.Ns mainGlobals mg → (∀ p ∈ cs, LamX.TabB base mg p.1 p.2) → FnG l.prog w (K w.params) mg base CX0 k fa fd [x] sp) :
    PySem.W.WalkO q loose XP YP l.row.toRowW d [] (fun f vs => PySem.call f vs) := by
  refine attach_callB hn hdf ?_
  intro w s₀ s₁ mg mb fa o pm cd doc a vs ns G Y ho hd hcd hmg hobj hints hlen hbits hg
  have KX := hY w _ Y
  obtain ⟨fd, cs, sp, hb, ht, hsp, hF⟩ := F w mg fa _ KX G.T.g hmg
  have tabs : ∀ p ∈ cs, PySem.W.CodeHd s₁.heap p.1 p.2 ∧ s₁.heap.get? p.2 = some (PySem.W.tabObj #[]) := by
    intro p hp
    obtain ⟨_, y, e, h1, h2⟩ := ht p hp
    exact PySem.W.tab_of (c := p.1) (P := p.2) G.T KX h1 h2
  exact law_callGT KX G.T.g G.T.b G.T.builtins G.T.nolimit hg (fun p hp => (tabs p hp).2) (fun p hp => (ht p hp).1) (fun p hp => (tabs p hp).1) G.T.bmain hobj hints (Nat.le_trans hlen hn2) hr hF hb (fun H h1 h2 => hsp H a ns hlen hbits h1 h2)
end
end Gd
/-! # a def that makes lambdas; the def that calls one -/
namespace Gd
open PySem PySem.Spec PyProof.Rows L2
/-- a def whose code object stands at c, with the table at P -/
structure FunL (K : PySem.W.Frag) (x qual : Str) (st : Stmt) (f : Addr) (fd : FuncData) (c : Addr) : Prop where
  ex : ∃ (oc : Value) (od : Option Addr) (kV dc pm : Value) (an : Option Addr) (ct : Value) (sl : Array (Option Value)),
    fd = PySem.W.fnOf x qual (defArgs st) (defBody st) (defScope st) .none kV dc pm an (.ref c) ct ∧ K.lookup f = some ⟨oc, od, .func fd, sl⟩ ∧ PySem.W.codeIn K (.ref c) qual = true
  kp : PySem.W.keepIn K (.ref f) = true
theorem tab_in {K : PySem.W.Frag} {y : Str} {f c p : Addr} {o cl : Value} {od cd : Option Addr} {sl cs : Array (Option Value)} {fd : FuncData} {us : Array Value} (h1 : PySem.W.nsIn K mainGlobals y = some (some (.ref f))) (h2 : K.lookup f = some ⟨o, od, .func fd, sl⟩) (h3 : fd.code = .ref c)
    (h4 : K.lookup c = some ⟨cl, cd, .fields us, cs⟩) (h5 : us[11]? = some (.ref p)) : PySem.W.tabIn K y = some (c, p) := by
  unfold PySem.W.tabIn
  rw [h1]
  dsimp only
  rw [h2]
  dsimp only
  rw [h3]
  dsimp only
  rw [h4]
  dsimp only
  rw [h5]
section
variable {P : Program} {w : World} {K : PySem.W.Frag} {mg : Str → Option Value} {base : Heap}
theorem okGL {x qual : Str} {st : Stmt} {f c : Addr} {fd : FuncData} {N ps : List Str} {k : Nat} {sp : Sp} (F : FunL K x qual st f fd c)
    (S : FnScope N ps (defScope st)) (len : ∀ vs H Q E, sp vs H Q E → vs.length = ps.length)
    (body : ∀ (A : Around) (outer : List Env) (s : Shared) (H : Hp) (vs : List V) (Q : VK) (E : XK),
      Room k (A.deeper (envOfC qual (defScope st) s.heap.objs.size f (.ref c))) →
      (A.deeper (envOfC qual (defScope st) s.heap.objs.size f (.ref c))).guards = some [] → sp vs H Q E →
      ∃ t, PSs (cxOf CX0 P w K mg base N qual (defScope st) f (.ref c) A outer s H E).nox (defBody st) t ∧
        t { nx := fun _ H' => Q .non H', rt := Q } (start N vs) H) :
    FnG P w K mg base CX0 (k + 1) f fd ps sp := by
  obtain ⟨oc, od, kV, doc, pm, an, ct, osl, rfl, lk, code⟩ := F.ex
  constructor
  · exact len
  intro A outer s H args us vs Q E hr gd e0 hb r h
  have many := len _ _ _ _ h
  have KX : K.In s.heap := e0.mod.kin.keeps fun b o q => (e0.bs b o q).1
  have lim : s.heap.NoLimit := e0.mod.nolimit.keeps fun b o q => (e0.bs b o q).1
  have kinds : ∀ y ∈ ps.zip us, (defScope st).names.lookup y.1 = some .local ∨ ((defScope st).names.lookup y.1 = some .cell ∧
      ((cellsFrom (s.heap.objs.size + 1) (defScope st).names []).lookup y.1).isSome = true) := by
    rintro ⟨n, v⟩ hy
    rcases S.par n (List.of_mem_zip hy).1 with q | q
    · left; exact q
    · right; exact ⟨q, PySem.W.cellsFrom_some _ _ _ (.inl q)⟩
  refine codeAny_call_function hr.depth (KX _ _ lk) rfl S.co S.gen rfl (PySem.W.codeRec_of KX code) (hb _ _ _ _ ?_)
  refine wpAny_newFunctionEnv_cells S.kind kinds ?_
  rintro env rfl s1 x
  refine ⟨lim.keeps x.toInCall.keep, codeAny_func ?_⟩
  obtain ⟨t, ht, q⟩ := body A outer s H vs Q E (hr.deeper _) (show (A.deeper _).guards = some [] from gd) h
  have I : Inv (cxOf CX0 P w K mg base N qual (defScope st) f (.ref c) A outer s H E) [] (start N vs) H s1 := inv_start S hr.hd e0 many r x
  refine wpAny_mono (ht.nox.run [] s1 (start N vs) H _ I q) ?_ fun e s' z => z
  rintro fl s' z
  cases fl with
  | ret u =>
    obtain ⟨v, σ', H', J, rv, q⟩ := z
    exact ⟨v, H', J.os, J.bare, J.base, J.hok, rv, q⟩
  | next =>
    obtain ⟨σ', H', J, q⟩ := z
    exact ⟨V.non, H', J.os, J.bare, J.base, J.hok, rfl, q⟩
  | brk => obtain ⟨_, _, _, q⟩ := z; exact q.elim
  | cont => obtain ⟨_, _, _, q⟩ := z; exact q.elim
end
section
variable {X : Cx}
/-- x(lambda: e), x a def of the text with one parameter -/
theorem pe_lam {T : List (Addr × Str)} {TT : (XK → Hp → VK → Prop) → Hp → VK → Prop} {x a : Str} {g c p : Addr} {k : Nat} {st : Stmt} {fd : FuncData} {Ng : List Str} {params : Arguments} {body : Expr} {scope : Scope} {t : XK → TE} {q1 q2 q3 : Pos}
    (hg : Gl X x) (hm : X.mg x = some (.ref g)) (F : Fun X.K x x st g fd) (hb : L2.Binds X.K fd [a] []) (Sg : FnScope Ng [a] (defScope st)) (hNg : Ng[0]? = some a) (hva : Vis (defScope st) a)
    (hG : ∀ cdv : Value, LamX.GivesTo X Ng x (defScope st) g cdv (defBody st) a (X.env.qual ++ "<lambda>") TT) (TB : LamX.TabB X.base X.mg c p) (hcode : X.env.code = .ref c) (hmT : (p, X.env.qual ++ "<lambda>") ∈ T) (hu : ∀ y ∈ T, y.1 = p → y.2 = X.env.qual ++ "<lambda>")
    (hr : Room (k + 2) X.A) (L : LamX.LamS X.env.scope scope) (hdef : defaultsOf params X.env = ([], []))
    (hbind : ∀ (q : Str) (cl : List (Str × Addr)) (pm cv ctv : Value), bindArgs (PySem.W.kla_fn "<lambda>" q params body scope cl pm cv ctv) ⟨[], []⟩ = pure [])
    (hbody : ∀ (A : Around) (outer : List Env) (s : Shared) (H : Hp) (E : XK) (f c' : Addr), Room k (A.deeper (LamX.lamEnv X scope s.heap.objs.size f c')) → PE (LamX.lamCx X A outer s H E scope f c') body (t E))
    (hdb : (x == ("__debug__" : Str)) = false := by decide) (hd : (a == ("__debug__" : Str)) = false := by decide) (hcd : (a == ("__classdict__" : Str)) = false := by decide) :
    PE X (.Call (.Name x q1) [.Lambda params body scope q2] [] q3) (LamX.tLam T TT t) := by
  obtain ⟨oc, od, kV, doc, pm, an, cdv, ct, osl, rfl, lk, code⟩ := F.ex
  exact LamX.pe_lamcall hg hm F.kp lk code hb Sg hNg hva (hG cdv) TB hcode hmT hu hr L hdef hbind hbody hdb hd hcd
end
/-! ### what is kept when tables grow -/
open LamX in
/-- all but m and the tables stays -/
def KpN (m : Addr) (H H' : Hp) : Prop := ∀ b o, b ≠ m → H b = some o → (∀ ps, o ≠ .tbl ps) → H' b = some o
section
open LamX
variable {H H1 H2 : Hp} {m p : Addr} {K : PySem.W.Frag} {xs : List V}
theorem ExtN.kp (e : ExtN H H1) : KpN m H H1 := fun b o _ h n => e b o h n
theorem KpN.of (e : Kp m H H1) : KpN m H H1 := fun b o hb h _ => e b o hb h
theorem KpN.trans (a : KpN m H H1) (b : KpN m H1 H2) : KpN m H H2 := fun c o hc h n => b c o hc (a c o hc h n) n
theorem ExtN.same (e : Same H H1) : ExtN H H1 := fun b o h _ => e b o h
theorem ExtN.tup (e : ExtN H H1) (h : H p = some (.tup xs)) : H1 p = some (.tup xs) := e p _ h fun ps z => nomatch z
theorem ExtN.lst (e : ExtN H H1) (h : H p = some (.lst xs)) : H1 p = some (.lst xs) := e p _ h fun ps z => nomatch z
theorem ExtN.dK {kvs : List (Key × V)} (e : ExtN H H1) (h : H p = some (.dK kvs)) : H1 p = some (.dK kvs) := e p _ h fun ps z => nomatch z
theorem ExtN.seqT (e : ExtN H H1) (h : SqT K H p xs) : SqT K H1 p xs := by
  rcases h with (h | ⟨o, h⟩) | h
  · exact .inl (.inl (e _ _ h fun ps z => nomatch z))
  · exact .inl (.inr ⟨o, e _ _ h fun ps z => nomatch z⟩)
  · exact .inr h
theorem Tk.ofN (e : ExtN H H1) : Tk H H1 := fun q ys h => e q _ h fun ps z => nomatch z
theorem TabsKp {T : List (Addr × Str)} {kvs : List (Key × V)} (t : Tabs T H) (k : Kp m H H1) (hm : H m = some (.dK kvs)) : Tabs T H1 := by
  intro q hq
  obtain ⟨ps, h1, h2, h3⟩ := t q hq
  refine ⟨ps, k.get h1 hm (fun z => nomatch z), h2, fun pos cv hc => ?_⟩
  obtain ⟨c, e1, e2⟩ := h3 pos cv hc
  exact ⟨c, e1, k.get e2 hm (fun z => by unfold CodeO at z; cases z)⟩
end
end Gd
namespace Gd
open PySem PySem.Spec PyProof.Rows L2
theorem takes_len {X : Cx} {W : WX} (tk : Takes X W) : Takes X (fun cls d σ H => σ.length = X.N.length → W cls d σ H) := by
  intro u t hx
  obtain ⟨a, B, sI, pins', σ', H', cls, d, rfl, J, nb, up, sky, na, os, ag, want⟩ := hx
  exact tk _ _ ⟨a, B, sI, pins', σ', H', cls, d, rfl, J, nb, up, sky, na, os, ag, want J.len⟩
theorem rd_xf {a : Addr} {cls : Value} {d : Option Addr} {C : Addr} {f : Str} {te : TE} {σ : L2.St} {H : Hp} {Q : VK} (h : te σ H fun x H1 => x = .ref a ∧ cls = .ref C ∧ ∃ (dd : Addr) (fs : List (Str × V)) (v : V), d = some dd ∧ H1 dd = some (.xd fs) ∧ fs.lookup f = some v ∧ Q v H1) : tXf a cls d C f te σ H Q := h
/-- what the clauses make of an exception: the first one that catches it tells its tag and the attribute -/
def wOut (K : PySem.W.Frag) (Q : VK) : List (Addr × Str × Str) → XK
  | [] => fun _ _ _ => False
  | (C, tag, f) :: r => fun cls d H => ∃ b, PySem.W.exmOne K cls (.ref C) = some b ∧
      (b = true → cls = .ref C ∧ ∃ (dd : Addr) (fs : List (Str × V)) (v : V), d = some dd ∧ H dd = some (.xd fs) ∧ fs.lookup f = some v ∧ ∀ p, H p = none → Q (.ref p) (upd H p (.tup [.str tag, v]))) ∧ (b = false → wOut K Q r cls d H)
def TOut (K : PySem.W.Frag) (l : List (Addr × Str × Str)) : (XK → Hp → VK → Prop) → Hp → VK → Prop := fun tl H Q =>
  tl (wOut K Q l) H fun v H1 => ([V.str "told", v] : List V).length ≤ sizeLine ∧ ∀ p, H1 p = none → ∃ u, some (some (V.ref p)) = some (some u) ∧ Q u (upd H1 p (.tup [.str "told", v]))
end Gd

/-! # max and min with default=, how many numbers a list has -/
namespace Gd
open PySem PySem.Spec PyProof.Rows L2
section
variable {prog : Program} {w : World} {A : Around} {E : Value → Shared → Prop} {s : Shared} {l : Addr} {its : List Value} {ns : List Int} {d : Value} {Q : Value → Shared → Prop}
theorem max_rawD (hh : A.handled = none) (hl : s.heap.IsList l its.toArray) (hi : IntsAre its ns)
    (h0 : ns = [] → ∀ h' tk, (∀ b o, s.heap.get? b = some o → h'.get? b = some o) → Q d { s with heap := h', toks := tk })
    (h : ∀ h' tk M t', (∀ b o, s.heap.get? b = some o → h'.get? b = some o) → M ∈ ns → (∀ a, a ∈ ns → a ≤ M) → Q (.int M t') { s with heap := h', toks := tk }) :
    wpAny (model prog w) A (call (.builtin "max") [.ref l] [(Str.ofString "default", d)]) Q E s := by
  obtain ⟨xs, e⟩ := hi.allInts.items
  have hn : numsOf (intItems xs).toList = ns := by rw [← e]; exact hi.numsOf
  rw [nums_intItems] at hn
  subst hn
  rw [e] at hl
  refine PySem.call_max_walkD (PySem.W.iter_listW (A := A.in1) hh hl fun s₂ e W st hfp hw hk => ?_)
  refine ⟨_, _, _, _, _, _, _, s.heap, (fun i j => decide (numAt xs i > numAt xs j)), rfl, W, st, hfp, hw, hk, fun hz s' m => ?_, fun hp => ⟨fun i j vi vj s' Q' E' _ h1 h2 q => CmpOf.ints_gt (numAt xs) (fun _ _ => intItems_at) i j vi vj s' Q' E' h1 h2 q, fun v s' hP m => ?_⟩⟩
  · obtain ⟨h', tk, rfl, hk'⟩ := PySem.W.moved_old e rfl m
    refine h0 ?_ h' tk hk'
    have hz : xs.size = 0 := by simpa [intItems] using hz
    rw [Array.eq_empty_of_size_eq_zero hz]
    rfl
  · obtain ⟨h', tk, rfl, hk'⟩ := PySem.W.moved_old e rfl m
    have hsz : 0 < xs.size := by simpa [intItems] using hp
    have hP : (intItems xs)[argBest (fun i j => decide (numAt xs i > numAt xs j)) (xs.size - 1)]? = some v := by simpa [intItems] using hP
    obtain ⟨t, rfl⟩ := intItems_at hP
    obtain ⟨h1, h2⟩ := argBest_gt (numAt xs) (xs.size - 1)
    refine h h' tk _ t hk' ?_ fun a ha => ?_
    · rw [numAt_eq]; exact PySem.getD_mem (by rw [List.length_map, Array.length_toList]; omega)
    · obtain ⟨j, hj, rfl⟩ := mem_getD ha
      rw [List.length_map, Array.length_toList] at hj
      rw [← numAt_eq]; exact h2 j (by omega)
theorem min_rawD (hh : A.handled = none) (hl : s.heap.IsList l its.toArray) (hi : IntsAre its ns)
    (h0 : ns = [] → ∀ h' tk, (∀ b o, s.heap.get? b = some o → h'.get? b = some o) → Q d { s with heap := h', toks := tk })
    (h : ∀ h' tk M t', (∀ b o, s.heap.get? b = some o → h'.get? b = some o) → M ∈ ns → (∀ a, a ∈ ns → M ≤ a) → Q (.int M t') { s with heap := h', toks := tk }) :
    wpAny (model prog w) A (call (.builtin "min") [.ref l] [(Str.ofString "default", d)]) Q E s := by
  obtain ⟨xs, e⟩ := hi.allInts.items
  have hn : numsOf (intItems xs).toList = ns := by rw [← e]; exact hi.numsOf
  rw [nums_intItems] at hn
  subst hn
  rw [e] at hl
  refine PySem.call_min_walkD (PySem.W.iter_listW (A := A.in1) hh hl fun s₂ e W st hfp hw hk => ?_)
  refine ⟨_, _, _, _, _, _, _, s.heap, (fun i j => decide (numAt xs i < numAt xs j)), rfl, W, st, hfp, hw, hk, fun hz s' m => ?_, fun hp => ⟨fun i j vi vj s' Q' E' _ h1 h2 q => CmpOf.ints_lt (numAt xs) (fun _ _ => intItems_at) i j vi vj s' Q' E' h1 h2 q, fun v s' hP m => ?_⟩⟩
  · obtain ⟨h', tk, rfl, hk'⟩ := PySem.W.moved_old e rfl m
    refine h0 ?_ h' tk hk'
    have hz : xs.size = 0 := by simpa [intItems] using hz
    rw [Array.eq_empty_of_size_eq_zero hz]
    rfl
  · obtain ⟨h', tk, rfl, hk'⟩ := PySem.W.moved_old e rfl m
    have hsz : 0 < xs.size := by simpa [intItems] using hp
    have hP : (intItems xs)[argBest (fun i j => decide (numAt xs i < numAt xs j)) (xs.size - 1)]? = some v := by simpa [intItems] using hP
    obtain ⟨t, rfl⟩ := intItems_at hP
    obtain ⟨h1, h2⟩ := argBest_lt (numAt xs) (xs.size - 1)
    refine h h' tk _ t hk' ?_ fun a ha => ?_
    · rw [numAt_eq]; exact PySem.getD_mem (by rw [List.length_map, Array.length_toList]; omega)
    · obtain ⟨j, hj, rfl⟩ := mem_getD ha
      rw [List.length_map, Array.length_toList] at hj
      rw [← numAt_eq]; exact h2 j (by omega)
theorem firstMet_len (f : Nat → Int) : ∀ n : Nat, (firstMet f n).length ≤ n
  | 0 => Nat.zero_le _
  | n + 1 => by
    have ih := firstMet_len f n
    rw [firstMet_succ]
    unfold step_dedup
    split
    · omega
    · rw [List.length_append]
      show _ + 1 ≤ _
      omega
end
section
variable {X : Cx}
/-- max(xs, default=d) of a list of numbers -/
def rMaxD (K : PySem.W.Frag) : List V → List V → Hp → VK → Prop := fun vs zs H Q => ∃ (a : Addr) (ns : List Int) (d : V), vs = [V.ref a] ∧ zs = [d] ∧ SqL K H a (ns.map V.int) ∧ (ns = [] → Q d H) ∧ ∀ m, m ∈ ns → (∀ y, y ∈ ns → y ≤ m) → Q (.int m) H
theorem cr_maxD (hc : X.calm = true) : CallRK X (.builtin "max") [Str.ofString "default"] (rMaxD X.K) := by
  intro pins s σ H vs zs us ws Q I r rz h
  obtain ⟨a, ns, d, rfl, rfl, hs, q0, q⟩ := h
  obtain ⟨its, rv, hl, _⟩ := I.list hs
  obtain rfl := Vals.ref1 r
  obtain ⟨w1, rfl, e1⟩ := vals1 rz
  exact max_rawD (I.ok.hd hc) hl.isList rv.ints (fun e h' tk hk => ⟨d, H, I.kept hk, e1, q0 e⟩) fun h' tk m t' hk h1 h2 => ⟨.int _, H, I.kept hk, ⟨_, rfl⟩, q m h1 h2⟩
/-- min(xs, default=d) of a list of numbers -/
def rMinD (K : PySem.W.Frag) : List V → List V → Hp → VK → Prop := fun vs zs H Q => ∃ (a : Addr) (ns : List Int) (d : V), vs = [V.ref a] ∧ zs = [d] ∧ SqL K H a (ns.map V.int) ∧ (ns = [] → Q d H) ∧ ∀ m, m ∈ ns → (∀ y, y ∈ ns → m ≤ y) → Q (.int m) H
theorem cr_minD (hc : X.calm = true) : CallRK X (.builtin "min") [Str.ofString "default"] (rMinD X.K) := by
  intro pins s σ H vs zs us ws Q I r rz h
  obtain ⟨a, ns, d, rfl, rfl, hs, q0, q⟩ := h
  obtain ⟨its, rv, hl, _⟩ := I.list hs
  obtain rfl := Vals.ref1 r
  obtain ⟨w1, rfl, e1⟩ := vals1 rz
  exact min_rawD (I.ok.hd hc) hl.isList rv.ints (fun e h' tk hk => ⟨d, H, I.kept hk, e1, q0 e⟩) fun h' tk m t' hk h1 h2 => ⟨.int _, H, I.kept hk, ⟨_, rfl⟩, q m h1 h2⟩
/-- len(set(xs)) of a list of numbers -/
def tLenSetA (K : PySem.W.Frag) (ta : TE) : TE := fun σ H Q => ta σ H fun x H1 => ∃ (l : Addr) (ns : List Int), x = V.ref l ∧ SqL K H1 l (ns.map V.int) ∧ ns.length ≤ 4000 ∧ Q (.int ((firstMet (fun i => ns.getD i 0) ns.length).length : Nat)) H1
theorem pe_lenSetA {a : Expr} {ta : TE} {p p2 q pos : Pos} (hg : Gl X "len") (hm : X.mg "len" = none) (hg2 : Gl X "set") (hm2 : X.mg "set" = none) (ha : PE X a ta) (hc : X.calm = true := by rfl)
    (na : starEach [a] X.env = (false, eval a X.env) :: starEach [] X.env := by rfl) : PE X (.Call (.Name "len" p) [.Call (.Name "set" p2) [a] [] q] [] pos) (tLenSetA X.K ta) := by
  refine ⟨fun pins s σ H Q I h => ?_⟩
  refine Call_ (ld_blt I hg hm boot_len ?_)
  refine callWith_builtin1 (args_cons ?_ rfl) rfl rfl
  refine Call_ (ld_blt I hg2 hm2 boot_set ?_)
  refine callWith_type1 (args_cons (thn (ha.run pins s σ H _ I h) fun v s1 ⟨x, H1, I1, r1, q1⟩ => args_nil ?_) na) na rfl
  obtain ⟨l, ns, rfl, hq, hl, q1⟩ := q1
  cases r1
  obtain ⟨its, r, pl, hz⟩ := I1.list hq
  have hlen : its.toArray.size = ns.length := by rw [List.size_toArray, ← r.length, List.length_map]
  refine call_set_list (I1.ok.hd hc) pl.isList (by simpa using RZ.intsAre_vals r) (by rw [hlen]; unfold scanBound; omega) fun h' tk hS hk => ?_
  refine args_nil ?_
  rw [hlen] at hS
  obtain ⟨o, es, ep, t, ho, hex, hd, _, _, _, hf, hn⟩ := hS
  have I2 : Inv X pins σ H1 { s1 with heap := h', toks := tk } := I1.kept fun b o e => hk b o (Heap.lt_size e) e
  have le : (firstMet (fun i => ns.getD i 0) ns.length).length ≤ ns.length := firstMet_len _ _
  exact call_len_set ho hex hd hf (by rw [hn] <;> omega) ⟨.int ((firstMet (fun i => ns.getD i 0) ns.length).length : Nat), H1, I2.tok _, ⟨_, by rw [hn]⟩, q1⟩
end
end Gd

/-! # dict(zip(a, b)), a and b lists or tuples -/
namespace Gd
open PySem PySem.Spec PyProof.Rows L2
section
variable {prog : Program} {w : World} {A : Around} {E : Value → Shared → Prop} {s : Shared} {z TI TO i1 i2 T : Addr} {fp1 fp2 : List Addr} {n1 n2 i : Nat} {P1 P2 : Nat → Value → Prop} {St1 St2 : Nat → Heap → Prop} {a1 a2 : Value} {f : Bool} {oT : Obj}
/-- the next pair while the last one is still out -/
theorem zipH_item {Q : Value → Shared → Prop} (S : ZipSep2 z TI TO i1 i2 fp1 fp2) (D1 : Draws prog w A i1 fp1 n1 P1 St1) (D2 : Draws prog w A i2 fp2 n2 P2 St2)
    (hz : IsZipHeld s.heap z TI TO T f) (hT : s.heap.get? T = some oT) (hTI : IsTupOf2 s.heap TI (.ref i1) (.ref i2)) (st1 : St1 i s.heap) (st2 : St2 i s.heap) (l1 : i < n1) (l2 : i < n2)
    (hQ : ∀ x1 x2 h' tk, P1 i x1 → P2 i x2 → IsZipHeld h' z TI TO T true → St1 (i + 1) h' → St2 (i + 1) h' → IsTupOf2 h' s.heap.objs.size x1 x2 → h'.objs.size = s.heap.objs.size + 1 →
      (∀ c o, c ≠ z → c ≠ i1 → c ≠ i2 → s.heap.get? c = some o → h'.get? c = some o) → Q (.ref s.heap.objs.size) { s with heap := h', toks := tk }) :
    wpAny (model prog w) A (Builtin.«zip.__next__» ⟨[.ref z], []⟩) (fun fin s' => ∃ v, fin = .done (.ret v) ∧ Q v s') E s := by
  obtain ⟨hp, g, d, tk0, os⟩ := s
  show wpAny _ _ (field (.ref z) 2 >>= _) _ _ _
  refine wpAny_bind (wpAny_field hz rfl (x := .bool false) rfl ?_)
  show wpAny _ _ (field (.ref z) 3 >>= _) _ _ _
  refine wpAny_bind (wpAny_field hz rfl (x := .ref TI) rfl ?_)
  refine wpAny_bind (wpAny_seqItems hTI rfl ?_)
  show wpAny _ _ (Builtin.SmallTypes.ownedTupleIsFree (.ref z) >>= _) _ _ _
  refine wpAny_bind (wpAny_tupleHeld_zip hz hT fun g0 hz0 hs0 => ?_)
  replace hs0 : Heap.SameBut z hp g0 := hs0
  simp only [Bool.false_eq_true, if_false]
  refine wpAny_bind ?_
  rw [← Array.forIn_toList]
  simp only [List.forIn_cons, List.forIn_nil]
  refine wpAny_bind (wpAny_bind (wpAny_holding ?_))
  show wpAny _ _ (Builtin.SmallTypes.nextOf (.ref i1) >>= _) _ _ ⟨g0, g, d, tk0, os⟩
  refine wpAny_bind (D1.item i _ _ _ l1 (D1.over st1 hs0 S.zf1) fun x1 p1 tk1 hx1 sn1 hp1 => wpAny_pure ?_)
  replace hp1 : Heap.SameBut i1 g0 p1 := hp1
  refine wpAny_pure ?_
  refine wpAny_bind (wpAny_bind (wpAny_holding ?_))
  show wpAny _ _ (Builtin.SmallTypes.nextOf (.ref i2) >>= _) _ _ ⟨p1, g, d, tk1, os⟩
  refine wpAny_bind (D2.item i _ _ _ l2 (D2.over (D2.over st2 hs0 S.zf2) hp1 S.sep1_2) fun x2 p2 tk2 hx2 sn2 hp2 => wpAny_pure ?_)
  replace hp2 : Heap.SameBut i2 p1 p2 := hp2
  refine wpAny_pure (wpAny_pure ?_)
  show wpAny _ _ (newTuple [x1, x2] >>= _) _ _ _
  refine wpAny_bind (wpAny_newTuple ?_)
  have hsz : p2.objs.size = hp.objs.size := by rw [hp2.1, hp1.1, hs0.1]
  have hzz : IsZipHeld p2 z TI TO T true := hp2.extBut _ _ S.zi2 (hp1.extBut _ _ S.zi1 hz0)
  have hkk : ∀ c o, c ≠ z → c ≠ i1 → c ≠ i2 → hp.get? c = some o → p2.get? c = some o := fun c o c1 c2 c3 e => hp2.extBut _ _ c3 (hp1.extBut _ _ c2 (hs0.extBut _ _ c1 e))
  have j1 : St1 (i + 1) p2 := D1.over sn1 hp2 S.sep2_1
  refine wpAny_pure ⟨_, rfl, ?_⟩
  show Q (.ref p2.objs.size) ⟨p2.push { cls := .type "tuple", data := .seq #[x1, x2] }, g, d, tk2, os⟩
  have hn : IsTupOf2 (p2.push { cls := .type "tuple", data := .seq #[x1, x2] }) p2.objs.size x1 x2 := Heap.get?_push_size _ rfl
  have hn2 : (p2.push { cls := .type "tuple", data := .seq #[x1, x2] }).objs.size = p2.objs.size + 1 := Heap.size_push ..
  rw [hsz] at hn hn2 ⊢
  exact hQ x1 x2 _ tk2 hx1 hx2 (Heap.get?_push_of_some _ hzz) (D1.frame _ _ _ j1 fun b _ o e => Heap.get?_push_of_some _ e) (D2.frame _ _ _ sn2 fun b _ o e => Heap.get?_push_of_some _ e) hn hn2 fun c o c1 c2 c3 e => Heap.get?_push_of_some _ (hkk c o c1 c2 c3 e)
theorem zipH_end {Q : Fin → Shared → Prop} (S : ZipSep2 z TI TO i1 i2 fp1 fp2) (D1 : Draws prog w A i1 fp1 n1 P1 St1) (D2 : Draws prog w A i2 fp2 n2 P2 St2)
    (hz : IsZipHeld s.heap z TI TO T f) (hT : s.heap.get? T = some oT) (hTI : IsTupOf2 s.heap TI (.ref i1) (.ref i2)) (st1 : St1 i s.heap) (st2 : St2 i s.heap) (l1 : i ≤ n1) (l2 : i ≤ n2) (he : i = n1 ∨ i = n2)
    (hE : ∀ h' tk e, (∀ c o, c ≠ z → c ≠ i1 → c ≠ i2 → s.heap.get? c = some o → h'.get? c = some o) → (∃ o, h'.get? e = some o ∧ o.cls = .type "StopIteration") → E (.ref e) { s with heap := h', toks := tk }) :
    wpAny (model prog w) A (Builtin.«zip.__next__» ⟨[.ref z], []⟩) Q E s := by
  obtain ⟨hp, g, d, tk0, os⟩ := s
  show wpAny _ _ (field (.ref z) 2 >>= _) _ _ _
  refine wpAny_bind (wpAny_field hz rfl (x := .bool false) rfl ?_)
  show wpAny _ _ (field (.ref z) 3 >>= _) _ _ _
  refine wpAny_bind (wpAny_field hz rfl (x := .ref TI) rfl ?_)
  refine wpAny_bind (wpAny_seqItems hTI rfl ?_)
  show wpAny _ _ (Builtin.SmallTypes.ownedTupleIsFree (.ref z) >>= _) _ _ _
  refine wpAny_bind (wpAny_tupleHeld_zip hz hT fun g0 hz0 hs0 => ?_)
  replace hs0 : Heap.SameBut z hp g0 := hs0
  simp only [Bool.false_eq_true, if_false]
  refine wpAny_bind ?_
  rw [← Array.forIn_toList]
  simp only [List.forIn_cons, List.forIn_nil]
  refine wpAny_bind (wpAny_bind (wpAny_holding ?_))
  show wpAny _ _ (Builtin.SmallTypes.nextOf (.ref i1) >>= _) _ _ ⟨g0, g, d, tk0, os⟩
  rcases Nat.lt_or_eq_of_le l1 with l1 | rfl
  · have e2 : i = n2 := by omega
    subst e2
    refine wpAny_bind (D1.item i _ _ _ l1 (D1.over st1 hs0 S.zf1) fun x1 p1 tk1 hx1 sn1 hp1 => wpAny_pure ?_)
    replace hp1 : Heap.SameBut i1 g0 p1 := hp1
    refine wpAny_pure ?_
    refine wpAny_bind (wpAny_bind (wpAny_holding ?_))
    show wpAny _ _ (Builtin.SmallTypes.nextOf (.ref i2) >>= _) _ _ ⟨p1, g, d, tk1, os⟩
    refine wpAny_bind (D2.done _ _ _ (D2.over (D2.over st2 hs0 S.zf2) hp1 S.sep1_2) fun p2 e hp2 hs => ?_)
    exact hE p2 tk1 e (fun c o c1 c2 c3 q => hp2 _ _ c3 (hp1.extBut _ _ c2 (hs0.extBut _ _ c1 q))) hs
  · refine wpAny_bind (D1.done _ _ _ (D1.over st1 hs0 S.zf1) fun p1 e hp1 hs => ?_)
    exact hE p1 tk0 e (fun c o c1 c2 _ q => hp1 _ _ c2 (hs0.extBut _ _ c1 q)) hs
theorem pyNext_zipH {Q : Option Value → Shared → Prop} (S : ZipSep2 z TI TO i1 i2 fp1 fp2) (D1 : Draws prog w A.in1 i1 fp1 n1 P1 St1) (D2 : Draws prog w A.in1 i2 fp2 n2 P2 St2)
    (hz : IsZipHeld s.heap z TI TO T f) (hT : s.heap.get? T = some oT) (hTI : IsTupOf2 s.heap TI (.ref i1) (.ref i2)) (st1 : St1 i s.heap) (st2 : St2 i s.heap) (l1 : i < n1) (l2 : i < n2)
    (hQ : ∀ x1 x2 h' tk, P1 i x1 → P2 i x2 → IsZipHeld h' z TI TO T true → St1 (i + 1) h' → St2 (i + 1) h' → IsTupOf2 h' s.heap.objs.size x1 x2 → h'.objs.size = s.heap.objs.size + 1 →
      (∀ c o, c ≠ z → c ≠ i1 → c ≠ i2 → s.heap.get? c = some o → h'.get? c = some o) → Q (some (.ref s.heap.objs.size)) { s with heap := h', toks := tk }) :
    wpAny (model prog w) A (pyNext (.ref z)) Q E s := by
  have hTy : s.TypeIs (.ref z) "zip" := ⟨_, hz, rfl⟩
  unfold pyNext
  exact wpAny_bind (wpAny_attempt (wpAny_callSpecial?_slot (name := Str.ofString "__next__") hTy F.slot_zip_next
    (wpAny_call_entry F.slot_zip_next hTy F.entry_zip_next
      (zipH_item S D1 D2 hz hT hTI st1 st2 l1 l2 fun x1 x2 h' tk y1 y2 b1 d1 d2 b5 b6 b7 => wpAny_pure (hQ x1 x2 h' tk y1 y2 b1 d1 d2 b5 b6 b7)) (F.args_zip_next_1 _))))
theorem pyNext_zipH_end {Q : Option Value → Shared → Prop} (S : ZipSep2 z TI TO i1 i2 fp1 fp2) (D1 : Draws prog w A.in1 i1 fp1 n1 P1 St1) (D2 : Draws prog w A.in1 i2 fp2 n2 P2 St2)
    (hz : IsZipHeld s.heap z TI TO T f) (hT : s.heap.get? T = some oT) (hTI : IsTupOf2 s.heap TI (.ref i1) (.ref i2)) (st1 : St1 i s.heap) (st2 : St2 i s.heap) (l1 : i ≤ n1) (l2 : i ≤ n2) (he : i = n1 ∨ i = n2)
    (hQ : ∀ h' tk, (∀ c o, c ≠ z → c ≠ i1 → c ≠ i2 → s.heap.get? c = some o → h'.get? c = some o) → Q none { s with heap := h', toks := tk }) : wpAny (model prog w) A (pyNext (.ref z)) Q E s := by
  have hTy : s.TypeIs (.ref z) "zip" := ⟨_, hz, rfl⟩
  unfold pyNext
  refine wpAny_bind (wpAny_attempt (wpAny_callSpecial?_slot (name := Str.ofString "__next__") hTy F.slot_zip_next
    (wpAny_call_entry F.slot_zip_next hTy F.entry_zip_next (zipH_end S D1 D2 hz hT hTI st1 st2 l1 l2 he fun h' tk e hk hs => ?_) (F.args_zip_next_1 _))))
  obtain ⟨o, ho, hc⟩ := hs
  refine wpAny_bind (wpAny_isInstance (T := "StopIteration") (b := true) ⟨o, ho, hc⟩ isSubtype_stop ?_)
  exact wpAny_pure (hQ _ _ hk)
end
/-- a list or a tuple that is drawn from -/
structure Dr (prog : Program) (w : World) (l : Addr) (its : Array Value) (o : Obj) (H1 : Heap → Prop) (St : Addr → Nat → Heap → Prop) : Prop where
  beg : Begins (.ref l) o H1
  dr : ∀ (A : Around) it, A.handled = none → l ≠ it → Draws prog w A it [it, l] its.size (fun i v => its[i]? = some v) (St it)
  st0 : ∀ h it, h.get? it = some o → H1 h → St it 0 h
  fr : ∀ it i h h', St it i h → (∀ b ∈ ([it, l] : List Addr), ∀ o, h.get? b = some o → h'.get? b = some o) → St it i h'
  th : ∀ it i h, St it i h → ∀ b ∈ ([it, l] : List Addr), ∃ o, h.get? b = some o
theorem dr_list {prog : Program} {w : World} (l : Addr) (its : Array Value) : Dr prog w l its { cls := .type "list_iterator", data := .fields #[.ref l, .int 0 0] } (fun h => h.IsList l its) (fun it i h => h.IsListIter it l i ∧ h.IsList l its) where
  beg := begins_list l its
  dr := fun A it hh ne => Draws.list hh it l ne its
  st0 := fun h it e hl => ⟨⟨_, e, rfl, rfl⟩, hl⟩
  fr := fun it i h h' st k => ⟨st.1.at fun o e => k it (by simp) o e, st.2.at fun o e => k l (by simp) o e⟩
  th := by
    rintro it i h ⟨⟨o1, e1, _⟩, ⟨o2, e2, _⟩⟩ b hb
    simp only [List.mem_cons, List.not_mem_nil, or_false] at hb
    rcases hb with rfl | rfl
    · exact ⟨_, e1⟩
    · exact ⟨_, e2⟩
theorem dr_tuple {prog : Program} {w : World} (l : Addr) (its : Array Value) : Dr prog w l its { cls := .type "tuple_iterator", data := .fields #[.ref l, .int 0 0] } (fun h => h.IsTuple l its) (fun it i h => h.IsTupleIter it l i ∧ h.IsTuple l its) where
  beg := begins_tuple l its
  dr := fun A it hh ne => Draws.tuple hh it l ne its
  st0 := fun h it e hl => ⟨⟨_, e, rfl, rfl⟩, hl⟩
  fr := fun it i h h' st k => ⟨st.1.at fun o e => k it (by simp) o e, st.2.at fun o e => k l (by simp) o e⟩
  th := by
    rintro it i h ⟨⟨o1, e1, _⟩, ⟨o2, e2, _⟩⟩ b hb
    simp only [List.mem_cons, List.not_mem_nil, or_false] at hb
    rcases hb with rfl | rfl
    · exact ⟨_, e1⟩
    · exact ⟨_, e2⟩
theorem zipArg {prog : Program} {w : World} {z TI TO i1 i2 l1 l2 : Addr} {xs ys : Array Value} {o1 o2 : Obj} {H1 H2 : Heap → Prop} {St1 St2 : Addr → Nat → Heap → Prop} (S : ZipSep2 z TI TO i1 i2 [i1, l1] [i2, l2]) (X1 : Dr prog w l1 xs o1 H1 St1) (X2 : Dr prog w l2 ys o2 H2 St2) (n1 : l1 ≠ i1) (n2 : l2 ≠ i2) :
    PairArg prog w "zip" z [z, TI, TO, i1, l1, i2, l2] [z, TO, i1, i2] (min xs.size ys.size) (fun i k v => xs[i]? = some k ∧ ys[i]? = some v)
      (fun h => IsZip h z TI TO .none ∧ IsTupOf2 h TI (.ref i1) (.ref i2) ∧ (∃ a b, IsTupOf2 h TO a b) ∧ St1 i1 0 h ∧ St2 i2 0 h) where
  type := fun s ok => ⟨_, ok.1, rfl⟩
  notDict := by decide
  keep := fun h h' ⟨hz, hTI, ⟨a, b, hTO⟩, h1, h2⟩ hk => ⟨hk _ _ hz, hk _ _ hTI, ⟨a, b, hk _ _ hTO⟩, X1.fr _ _ _ _ h1 fun b _ o e => hk b o e, X2.fr _ _ _ _ h2 fun b _ o e => hk b o e⟩
  there := by
    rintro h ⟨hz, hTI, ⟨a, c, hTO⟩, h1, h2⟩ b hb
    simp only [List.mem_cons, List.not_mem_nil, or_false] at hb
    rcases hb with rfl | rfl | rfl | rfl | rfl | rfl | rfl
    · exact ⟨_, hz⟩
    · exact ⟨_, hTI⟩
    · exact ⟨_, hTO⟩
    · exact X1.th _ _ _ h1 _ (by simp)
    · exact X1.th _ _ _ h1 _ (by simp)
    · exact X2.th _ _ _ h2 _ (by simp)
    · exact X2.th _ _ _ h2 _ (by simp)
  sub := fun b hb => by
    simp only [List.mem_cons, List.not_mem_nil, or_false] at hb ⊢
    rcases hb with rfl | rfl | rfl | rfl <;> simp
  noKeys := fun A s Q E hA ok h => getAttrOr_miss_zip ok.1 rfl rfl rfl zip_no_keys (by decide +kernel) hA h
  iter := fun A s d Q E hA ok hd hdf h => by
    obtain ⟨hz, hTI, ⟨a, b, hTO⟩, h1, h2⟩ := ok
    simp only [List.mem_cons, List.not_mem_nil, or_false, not_or] at hdf
    obtain ⟨dz, dTI, dTO, di1, dl1, di2, dl2⟩ := hdf
    refine wpAny_pyIter_zip hz (h z [z, TO, i1, i2] (fun i h => IsTupOf2 h TI (.ref i1) (.ref i2) ∧ St1 i1 i h ∧ St2 i2 i h ∧
      ((IsZip h z TI TO .none ∧ ∃ a b, IsTupOf2 h TO a b) ∨ ∃ T f oT, IsZipHeld h z TI TO T f ∧ h.get? T = some oT ∧ T ≠ z ∧ T ≠ i1 ∧ T ≠ i2 ∧ T ≠ d)) s.heap s.toks ?_
      ⟨hTI, h1, h2, .inl ⟨hz, a, b, hTO⟩⟩ (fun _ _ e => e) fun b hb => .inl hb)
    exact {
      off := fun hm => by
        simp only [List.mem_cons, List.not_mem_nil, or_false] at hm
        rcases hm with e | e | e | e
        · exact dz e
        · exact dTO e
        · exact di1 e
        · exact di2 e
      frame := fun i h₁ h₂ st hk => by
        obtain ⟨hTI, h1, h2, hz⟩ := st
        have m1 : ∀ b ∈ ([i1, l1] : List Addr), b ≠ d := fun b hb => by
          simp only [List.mem_cons, List.not_mem_nil, or_false] at hb
          rcases hb with rfl | rfl
          · exact Ne.symm di1
          · exact Ne.symm dl1
        have m2 : ∀ b ∈ ([i2, l2] : List Addr), b ≠ d := fun b hb => by
          simp only [List.mem_cons, List.not_mem_nil, or_false] at hb
          rcases hb with rfl | rfl
          · exact Ne.symm di2
          · exact Ne.symm dl2
        refine ⟨hk _ _ (Ne.symm dTI) hTI, X1.fr _ _ _ _ h1 fun b hb o e => hk b o (m1 b hb) e, X2.fr _ _ _ _ h2 fun b hb o e => hk b o (m2 b hb) e, ?_⟩
        rcases hz with ⟨hz, a, b, hTO⟩ | ⟨T, f, oT, hz, hT, r1, r2, r3, r4⟩
        · exact .inl ⟨hk _ _ (Ne.symm dz) hz, a, b, hk _ _ (Ne.symm dTO) hTO⟩
        · exact .inr ⟨T, f, oT, hk _ _ (Ne.symm dz) hz, hk _ _ r4 hT, r1, r2, r3, r4⟩
      item := fun i s₁ Q₁ E₁ hi st hds hQ => by
        obtain ⟨hTI, h1, h2, hz⟩ := st
        have hix : i < xs.size := Nat.lt_of_lt_of_le hi (Nat.min_le_left ..)
        have hiy : i < ys.size := Nat.lt_of_lt_of_le hi (Nat.min_le_right ..)
        obtain ⟨u1, q1⟩ := X1.th _ _ _ h1 i1 (by simp)
        obtain ⟨u2, q2⟩ := X2.th _ _ _ h2 i2 (by simp)
        have k1 : s₁.heap.objs.size ≠ i1 := Nat.ne_of_gt (Heap.lt_size q1)
        have k2 : s₁.heap.objs.size ≠ i2 := Nat.ne_of_gt (Heap.lt_size q2)
        have D1 := X1.dr A.in1 i1 hA n1
        have D2 := X2.dr A.in1 i2 hA n2
        rcases hz with ⟨hz, a, b, hTO⟩ | ⟨T, f, oT, hz, hT, r1, r2, r3, r4⟩
        · refine wpAny_pyNext_zipD2_item S D1 D2 hz hTI hTO h1 h2 hix hiy fun x1 x2 h' tk y1 y2 b1 b2 d1 d2 b5 b6 hk => ?_
          exact hQ s₁.heap.objs.size _ _ h' tk ⟨y1, y2⟩ (.inl ⟨_, b5, rfl, _, rfl⟩)
            ⟨hk _ _ S.TIz S.TITO S.TIi1 S.TIi2 hTI, d1, d2, .inr ⟨s₁.heap.objs.size, false, _, b1, b5, Nat.ne_of_gt (Heap.lt_size hz), k1, k2, Nat.ne_of_gt hds⟩⟩
            fun c o hc e => hk c o (fun x => hc (by simp [x])) (fun x => hc (by simp [x])) (fun x => hc (by simp [x])) (fun x => hc (by simp [x])) e
        · refine pyNext_zipH S D1 D2 hz hT hTI h1 h2 hix hiy fun x1 x2 h' tk y1 y2 b1 d1 d2 b5 b6 hk => ?_
          exact hQ s₁.heap.objs.size _ _ h' tk ⟨y1, y2⟩ (.inl ⟨_, b5, rfl, _, rfl⟩)
            ⟨hk _ _ S.TIz S.TIi1 S.TIi2 hTI, d1, d2, .inr ⟨T, true, oT, b1, hk _ _ r1 r2 r3 hT, r1, r2, r3, r4⟩⟩
            fun c o hc e => hk c o (fun x => hc (by simp [x])) (fun x => hc (by simp [x])) (fun x => hc (by simp [x])) e
      done := fun s₁ Q₁ E₁ st hQ => by
        obtain ⟨hTI, h1, h2, hz⟩ := st
        have D1 := X1.dr A.in1 i1 hA n1
        have D2 := X2.dr A.in1 i2 hA n2
        have hend : min xs.size ys.size = xs.size ∨ min xs.size ys.size = ys.size := by omega
        rcases hz with ⟨hz, a, b, hTO⟩ | ⟨T, f, oT, hz, hT, r1, r2, r3, r4⟩
        · exact wpAny_pyNext_zipD2_end S D1 D2 hz hTI hTO h1 h2 (Nat.min_le_left ..) (Nat.min_le_right ..) hend fun h' tk hk => hQ h' tk fun c o hc e => hk c o (fun x => hc (by simp [x])) (fun x => hc (by simp [x])) (fun x => hc (by simp [x])) (fun x => hc (by simp [x])) e
        · exact pyNext_zipH_end S D1 D2 hz hT hTI h1 h2 (Nat.min_le_left ..) (Nat.min_le_right ..) hend fun h' tk hk => hQ h' tk fun c o hc e => hk c o (fun x => hc (by simp [x])) (fun x => hc (by simp [x])) (fun x => hc (by simp [x])) e }
def SqA (K : PySem.W.Frag) (H : Hp) (a : Addr) (xs : List V) : Prop := SqL K H a xs ∨ SqT K H a xs
/-- dict(zip(a, b)): keys from a, what they have from b -/
def tDictZip (K : PySem.W.Frag) (t : TA) : TE := fun σ H Q => t σ H fun vs H1 => ∃ (a b : Addr) (ks : List Key) (ys : List V), vs = [.ref a, .ref b] ∧ SqA K H1 a (ks.map kV) ∧ SqA K H1 b ys ∧ ks.length = ys.length ∧
  ∀ p, H1 p = none → Q (.ref p) (upd H1 p (.dK (mergeK [] (ks.zip ys))))
section
variable {X : Cx}
theorem dr_of {pins : List (Addr × Obj)} {σ : L2.St} {H : Hp} {s : Shared} {a : Addr} {xs : List V} (I : Inv X pins σ H s) (h : SqA X.K H a xs) :
    ∃ (its : List Value) (o : Obj) (H1 : Heap → Prop) (St : Addr → Nat → Heap → Prop), Vals xs its ∧ xs.length ≤ sizeLine ∧ Dr X.prog X.w a its.toArray o H1 St ∧ H1 s.heap ∧ a < s.heap.objs.size := by
  rcases h with h | h
  · obtain ⟨its, rv, p1, hz⟩ := I.list h
    exact ⟨its, _, _, _, rv, hz, dr_list a its.toArray, p1.isList, p1.lt⟩
  · obtain ⟨its, rv, p1, hz⟩ := I.tuple h
    have IT : s.heap.IsTuple a its.toArray := p1
    obtain ⟨o, ho, _⟩ := id p1
    exact ⟨its, _, _, _, rv, hz, dr_tuple a its.toArray, IT, Heap.lt_size ho⟩
theorem kvs_of {P : Program} {w : World} : ∀ {ks : List Key} {ys : List V} {its jts : List Value}, Vals (ks.map kV) its → Vals ys jts → ks.length = ys.length →
    ∃ prs : List (Key × Value), KV (ks.zip ys) prs ∧ prs.length = ks.length ∧ ∀ (i : Nat) (u v : Value), its[i]? = some u → jts[i]? = some v → ∃ k, prs[i]? = some (k, v) ∧ (mixKind P w).is k u = true
  | [], [], _, _, .nil, .nil, _ => ⟨[], .nil, rfl, fun i u v e => by simp at e⟩
  | [], _ :: _, _, _, _, _, h => by cases h
  | _ :: _, [], _, _, _, _, h => by cases h
  | k :: ks, y :: ys, _, _, .cons (b := u) r t, .cons (b := v) r2 t2, h => by
    obtain ⟨prs, k1, k2, k3⟩ := kvs_of (P := P) (w := w) t t2 (Nat.succ.inj h)
    refine ⟨(k, v) :: prs, .cons ⟨rfl, r2⟩ k1, by rw [List.length_cons, List.length_cons, k2], fun i a b e1 e2 => ?_⟩
    cases i with
    | zero =>
      cases Option.some.inj e1
      cases Option.some.inj e2
      exact ⟨k, rfl, kV_is r⟩
    | succ i =>
      obtain ⟨k', e3, e4⟩ := k3 i a b (by simpa using e1) (by simpa using e2)
      exact ⟨k', by simpa using e3, e4⟩
theorem pe_dictZip {e1 e2 : Expr} {t : TA} {p p2 q pos : Pos} (hg : Gl X "dict") (hm : X.mg "dict" = none) (hg2 : Gl X "zip") (hm2 : X.mg "zip" = none) (ha : PA X [e1, e2] t) (hc : X.calm = true := by rfl)
    (na : starEach [Expr.Call (.Name "zip" p2) [e1, e2] [] q] X.env = (false, eval (Expr.Call (.Name "zip" p2) [e1, e2] [] q) X.env) :: starEach [] X.env := by rfl)
    (hs : starEach [e1, e2] X.env = (false, eval e1 X.env) :: starEach [e2] X.env := by rfl) (hpl : (backTo q (starEach [e2] X.env)).any (·.1) = false := by rfl) :
    PE X (.Call (.Name "dict" p) [.Call (.Name "zip" p2) [e1, e2] [] q] [] pos) (tDictZip X.K t) := by
  refine ⟨fun pins s σ H Q I h => ?_⟩
  refine Call_ (ld_blt I hg hm boot_dict ?_)
  refine callWith_type1 (args_cons ?_ na) na rfl
  refine Call_ (ld_blt I hg2 hm2 boot_zip (callWith_type1 (thn (ha.run q pins s σ H _ I h) fun us s1 hh => ?_) hs hpl))
  obtain ⟨vs, H1, I1, r1, a, b, ks, ys, rfl, hqx, hqy, hl, q1⟩ := hh
  obtain ⟨u, v, rfl, r, r'⟩ := vals2 r1
  cases r
  cases r'
  obtain ⟨its, o1, G1, St1, rv, hz1, X1, g1, la⟩ := dr_of I1 hqx
  obtain ⟨jts, o2, G2, St2, rv2, hz2, X2, g2, lb⟩ := dr_of I1 hqy
  refine zip_begins2 X1.beg X2.beg g1 g2 fun h' hz hT hO c1 c2 hsz hk => ?_
  refine args_nil ?_
  have S : ZipSep2 (s1.heap.objs.size + 4) (s1.heap.objs.size + 2) (s1.heap.objs.size + 3) s1.heap.objs.size (s1.heap.objs.size + 1) [s1.heap.objs.size, a] [s1.heap.objs.size + 1, b] := zip_sep2 (fp1 := [a]) (fp2 := [b]) (fun c hc => by rw [List.mem_singleton.mp hc]; exact la) (fun c hc => by rw [List.mem_singleton.mp hc]; exact lb)
  have hh : X.A.handled = none := I1.ok.hd hc
  obtain ⟨prs, m1, m2, m3⟩ := kvs_of (P := X.prog) (w := X.w) rv rv2 hl
  have len1 : its.toArray.size = ks.length := by rw [List.size_toArray, ← rv.length, List.length_map]
  have len2 : jts.toArray.size = ks.length := by rw [List.size_toArray, ← rv2.length, hl]
  rw [List.length_map] at hz1
  refine PySem.call_dict_pairs (knd := mixKind X.prog X.w) (kvs := prs) (zipArg S X1 X2 (Nat.ne_of_lt la) (Nat.ne_of_lt (Nat.lt_succ_of_lt lb))) hh
    ⟨hz, hT, ⟨_, _, hO⟩, X1.st0 _ _ c1 (X1.beg.keeps _ _ g1 hk), X2.st0 _ _ c2 (X2.beg.keeps _ _ g2 hk)⟩ ⟨by rw [len1, len2, Nat.min_self]; exact m2, fun i u v ⟨e1, e2⟩ => m3 i u v (by simpa using e1) (by simpa using e2)⟩ (by rw [len1, len2, Nat.min_self]; exact hz1) fun h'' tk hd' hk2 => ?_
  have keep : ∀ c o, s1.heap.get? c = some o → h''.get? c = some o := fun c o e => by
    have hlt := Heap.lt_size e
    refine hk2 c o (fun hm => ?_) (hk _ _ e)
    simp only [List.mem_cons, List.not_mem_nil, or_false] at hm
    rcases hm with z | z | z | z
    · exact absurd hlt (by rw [z]; exact Nat.not_lt.mpr (Nat.le_add_right _ _))
    · exact absurd hlt (by rw [z]; exact Nat.not_lt.mpr (Nat.le_add_right _ _))
    · exact absurd hlt (by rw [z]; exact Nat.lt_irrefl _)
    · exact absurd hlt (by rw [z]; exact Nat.not_lt.mpr (Nat.le_add_right _ _))
  have big : s1.heap.objs.size ≤ h'.objs.size := by rw [hsz]; exact Nat.le_add_right _ _
  have hm : (h'.objs.size == sysModules) = false := beq_eq_false_iff_ne.mpr (Nat.ne_of_gt (Nat.lt_of_lt_of_le I1.big big))
  have hlen : (mergeK [] (ks.zip ys)).length ≤ sizeLine := by
    refine Nat.le_trans (length_mergeK _ []) ?_
    rw [List.length_nil, Nat.zero_add, List.length_zip]
    exact Nat.le_trans (Nat.min_le_left ..) hz1
  exact ⟨.ref h'.objs.size, upd H1 h'.objs.size (.dK (mergeK [] (ks.zip ys))), I1.laid (t' := tk) keep big (show ObjOk X.prog X.w _ _ _ (.dK (mergeK [] (ks.zip ys))) from ⟨hlen, hm, merged [] prs, KV.merge m1 .nil, hd'⟩), rfl, q1 _ (I1.hok.fresh big)⟩
end
end Gd

/-! # comprehensions over zip of two lists -/
namespace Gd
open PySem PySem.Spec PyProof.Rows L2
section
variable {K : PySem.W.Frag} {σ : L2.St} {H H1 : Hp} {te : TE} {vs : List Nat} {a b : Addr} {xs ys : List V} {i1 i2 : Nat}
theorem sqL_same {H H' : Hp} {a : Addr} {xs : List V} (s : Same H H') (h : SqL K H a xs) : SqL K H' a xs := by
  rcases h with (h | ⟨o, h⟩) | h
  · exact .inl (.inl (s _ _ h))
  · exact .inl (.inr ⟨o, s _ _ h⟩)
  · exact .inr h
theorem rd_atZL {P P' : Addr → Addr → Prop} (h : SqL K H a xs) (h' : SqL K H b ys) (q : P a b) :
    ∃ c d zs ws, [V.ref a, V.ref b] = [.ref c, .ref d] ∧ ((SqL K H c zs ∧ SqL K H d ws ∧ P c d) ∨ (SqT K H c zs ∧ SqT K H d ws ∧ P' c d)) := ⟨a, b, xs, ys, rfl, .inl ⟨h, h', q⟩⟩
open Evl in
theorem lc_zipL {Dl : Addr} {Qd : Hp → Prop} (v : Nat → V) (hl : xs.length = ys.length) (hn : xs.length ≤ 1000000) (hD : H1 Dl = none)
    (hx : SqL K H1 a xs) (hy : SqL K H1 b ys) (hw : ∀ x y, wipe (((wipe σ vs).set i1 (some x)).set i2 (some y)) vs = wipe σ vs)
    (he : ∀ i x y H' (R : VK), xs[i]? = some x → ys[i]? = some y → Same H1 H' → (∀ H'', Same H' H'' → R (v i) H'') →
      te (((wipe σ vs).set i1 (some x)).set i2 (some y)) H' R)
    (hd : ∀ H', Same H1 H' → H' Dl = some (.lst ((List.range xs.length).map v)) → Qd H') :
    ∃ W : Nat → Nat → Hp → Prop, (∃ m, W 0 m (upd H1 Dl (.lst []))) ∧ ∀ i m H, W i m H →
      ((Itz K a b).stop i H ∧ Qd H) ∨ ((Itz K a b).go i H ∧ ∃ Nx : Hp → Prop, (∀ H', Nx H' → ∃ m', m' < m ∧ W (i + 1) m' H') ∧
        ∀ x H', (Itz K a b).yld i H x H' → gTup K 2 (gCons (gName i1) (gCons (gName i2) gNil)) x (wipe σ vs) H' fun σ2 H2 => wipe σ2 vs = wipe σ vs ∧ tYes σ2 H2 fun b H3 =>
          if b = true then te σ2 H3 fun y H4 => ∃ acc, H4 Dl = some (.lst acc) ∧ acc.length < sizeLine ∧ Nx (upd H4 Dl (.lst (acc ++ [y]))) else Nx H3) := by
  refine lc_it (walk_zip (n := xs.length) (xs := xs) (ys := ys) (by omega)) (fun i H' => Same H1 H' ∧ H' Dl = some (.lst ((List.range i).map v)))
    ⟨Same.new hD _, upd_same⟩ (fun i H' _ p => ⟨sqL_same p.1 hx, sqL_same p.1 hy⟩) ?_ fun H' p => hd H' p.1 p.2
  rintro i z H H' hi ⟨s, e⟩ ⟨T, x, y, rfl, nT, rfl, ex, ey⟩
  have s' : Same H1 (upd H T (.tup [x, y])) := s.trans (Same.new nT _)
  have nDT : Dl ≠ T := ne_of_none e nT
  refine rd_gtup (xs := [x, y]) (sqT upd_same) rfl (rd_gcons (rd_gname (rd_gcons (rd_gname (rd_gnil ⟨hw x y, ?_⟩)))))
  refine rd_yes (iteT (he i x y _ _ ex ey s' fun H'' s'' => ⟨(List.range i).map v, s'' _ _ (by rw [upd_ne nDT]; exact e), ?_, ?_, ?_⟩))
  · rw [List.length_map, List.length_range, sizeLine_eq]
    omega
  · exact Same.put (s'.trans s'') hD _
  · rw [upd_same, List.range_succ, List.map_append]
    rfl
end
end Gd

/-! # zip of a tuple and a list -/
namespace Gd
open PySem PySem.Spec PyProof.Rows L2
/-- the tuple at a and the list at b, as they stand at each turn, the items in new pairs -/
def ItzN (K : PySem.W.Frag) (a b : Addr) : It where
  go i H := ∃ (xs ys : List V) (x y : V), SqT K H a xs ∧ SqL K H b ys ∧ xs[i]? = some x ∧ ys[i]? = some y
  yld i H v H' := ∃ (T : Addr) (x y : V), v = .ref T ∧ H T = none ∧ H' = upd H T (.tup [x, y]) ∧ (∀ xs, SqT K H a xs → xs[i]? = some x) ∧ ∀ ys, SqL K H b ys → ys[i]? = some y
  stop i H := ∃ xs ys : List V, SqT K H a xs ∧ SqL K H b ys ∧ i = min xs.length ys.length
/-- the five cells of a zip laid at N, over what stood below -/
def znN (N a b : Addr) : Nat → Heap → Prop := fun i h => IsZip h (N + 4) (N + 2) (N + 3) .none ∧ IsTupOf2 h (N + 2) (.ref N) (.ref (N + 1)) ∧ (∃ u v, IsTupOf2 h (N + 3) u v) ∧ h.IsTupleIter N a i ∧ h.IsListIter (N + 1) b i
theorem turn_zipN {P : Program} {w : World} {K : PySem.W.Frag} {elts : List Expr} {kk : Nat} {tpos : Pos} {N a b : Addr} (ha : a < N) (hb : b < N) :
    Turn P w K (.Tuple elts kk tpos) (ItzN K a b) [N + 4, N + 2, N + 3, N, N + 1] (N + 4) (znN N a b) where
  mem := List.mem_cons_self ..
  obj := by
    rintro i h ⟨hz, hT, ⟨u, v, hO⟩, ⟨o1, e1, _, d1⟩, ⟨o2, e2, _, d2⟩⟩ c hc
    rcases five hc with rfl | rfl | rfl | rfl | rfl
    · exact ⟨_, hz, fun v q => nomatch q⟩
    · exact ⟨_, hT, fun v q => nomatch q⟩
    · exact ⟨_, hO, fun v q => nomatch q⟩
    · exact ⟨o1, e1, fun v q => by rw [d1] at q; cases q⟩
    · exact ⟨o2, e2, fun v q => by rw [d2] at q; cases q⟩
  keep := by
    rintro i h h' ⟨hz, hT, ⟨u, v, hO⟩, h1, h2⟩ k
    exact ⟨k _ (by simp) _ hz, k _ (by simp) _ hT, ⟨u, v, k _ (by simp) _ hO⟩, h1.at fun o q => k _ (by simp) o q, h2.at fun o q => k _ (by simp) o q⟩
  item := by
    rintro X rfl rfl rfl hc i pins s σ H E I hf ⟨hz, hT, hO, h1, h2⟩ ⟨xs, ys, x, y, hx, hy, ex, ey⟩
    obtain ⟨its, rv, p1, _⟩ := I.tuple hx
    obtain ⟨jts, rw', p2, _⟩ := I.list hy
    obtain ⟨u, hu, ru⟩ := rv.get ex
    obtain ⟨v, hv, rv2⟩ := rw'.get ey
    have hh : X.A.in1.handled = none := I.ok.hd hc
    have S : ZipSep2 (N + 4) (N + 2) (N + 3) N (N + 1) [N, a] [N + 1, b] := zip_sep2 (fp1 := [a]) (fp2 := [b]) (fun c hc => by rw [List.mem_singleton.mp hc]; exact ha) (fun c hc => by rw [List.mem_singleton.mp hc]; exact hb)
    have D1 := Draws.tuple (prog := X.prog) (w := X.w) (A := X.A.in1) hh N a (Nat.ne_of_lt ha) its.toArray
    have D2 := Draws.list (prog := X.prog) (w := X.w) (A := X.A.in1) hh (N + 1) b (Nat.ne_of_lt (Nat.lt_succ_of_lt hb)) jts.toArray
    have G := GoesN.zip2 (elts := elts) (x1 := kk) (pos := tpos) S D1 D2
    have li : i < its.length := (List.getElem?_eq_some_iff.mp hu).1
    have lj : i < jts.length := (List.getElem?_eq_some_iff.mp hv).1
    have IT : s.heap.IsTuple a its.toArray := p1
    refine G.goes i s _ E (by rw [List.size_toArray, List.size_toArray]; omega) ⟨hz, hT, hO, ⟨h1, IT⟩, ⟨h2, p2.isList⟩⟩ fun r h' tk hY st hk _ => ?_
    obtain ⟨T, x', y', rfl, hnew, hx', hy', hTT⟩ := hY
    have exu : x' = u := Option.some.inj ((show some x' = some u by rw [← hx', ← hu]; simp))
    have eyv : y' = v := Option.some.inj ((show some y' = some v by rw [← hy', ← hv]; simp))
    subst exu
    subst eyv
    have new : ObjOk X.prog X.w (upd H T (.tup [x, y])) h' T (.tup [x, y]) := ⟨by show 2 ≤ sizeLine; decide, [x', y'], .cons ru (.cons rv2 .nil), hTT⟩
    have J := I.turnedNew (t' := tk) (ch := [N + 4, N + 2, N + 3, N, N + 1]) (fun c o hcc q => hk c o (fun z => hcc (four z)) q) hf hnew new
    refine ⟨.ref T, _, J, rfl, ⟨T, x, y, rfl, I.hok.fresh hnew, rfl, fun l hl => by rw [I.tuple_inj hl hx]; exact ex, fun l hl => by rw [I.list_inj hl hy]; exact ey⟩, ⟨st.1, st.2.1, st.2.2.1, st.2.2.2.1.1, st.2.2.2.2.1⟩, fun c hcm => ?_⟩
    have hlt : c < s.heap.objs.size := by
      obtain ⟨o1, e1, _⟩ := h1
      obtain ⟨o2, e2, _⟩ := h2
      obtain ⟨u0, v0, e3⟩ := hO
      rcases five hcm with rfl | rfl | rfl | rfl | rfl
      · exact Heap.lt_size hz
      · exact Heap.lt_size hT
      · exact Heap.lt_size e3
      · exact Heap.lt_size e1
      · exact Heap.lt_size e2
    rw [upd_ne (Nat.ne_of_lt (Nat.lt_of_lt_of_le hlt hnew))]
    exact (hf c hcm).1
  done := by
    rintro X rfl rfl rfl hc i pins s σ H E I hf ⟨hz, hT, hO, h1, h2⟩ ⟨xs, ys, hx, hy, rfl⟩
    obtain ⟨its, rv, p1, _⟩ := I.tuple hx
    obtain ⟨jts, rw', p2, _⟩ := I.list hy
    have hh : X.A.in1.handled = none := I.ok.hd hc
    have S : ZipSep2 (N + 4) (N + 2) (N + 3) N (N + 1) [N, a] [N + 1, b] := zip_sep2 (fp1 := [a]) (fp2 := [b]) (fun c hc => by rw [List.mem_singleton.mp hc]; exact ha) (fun c hc => by rw [List.mem_singleton.mp hc]; exact hb)
    have D1 := Draws.tuple (prog := X.prog) (w := X.w) (A := X.A.in1) hh N a (Nat.ne_of_lt ha) its.toArray
    have D2 := Draws.list (prog := X.prog) (w := X.w) (A := X.A.in1) hh (N + 1) b (Nat.ne_of_lt (Nat.lt_succ_of_lt hb)) jts.toArray
    have G := GoesN.zip2 (elts := elts) (x1 := kk) (pos := tpos) S D1 D2
    have IT : s.heap.IsTuple a its.toArray := p1
    have e : min xs.length ys.length = min its.toArray.size jts.toArray.size := by rw [List.size_toArray, List.size_toArray, rv.length, rw'.length]
    rw [e] at h1 h2
    exact G.stops s _ E ⟨hz, hT, hO, ⟨h1, IT⟩, ⟨h2, p2.isList⟩⟩ fun h' tk hk _ => I.turnedL (t' := tk) (ch := [N + 4, N + 2, N + 3, N, N + 1]) (fun c o hcc q => hk c o (fun z => hcc (four z)) q) hf
  self := fun A i s Q E st h => wpAny_pyIter_zip st.1 h
def iZipN (K : PySem.W.Frag) (ta : TA) : TI := fun σ H R => ta σ H fun vs H1 => ∃ (a b : Addr) (xs ys : List V), vs = [.ref a, .ref b] ∧ SqT K H1 a xs ∧ SqL K H1 b ys ∧ R (ItzN K a b) H1
theorem pi_zipN {X : Cx} {e e2 : Expr} {ta : TA} {p pos tpos : Pos} {elts : List Expr} {kk : Nat} (hg : Gl X "zip") (hm : X.mg "zip" = none) (ha : PA X [e, e2] ta)
    (hs : starEach [e, e2] X.env = (false, eval e X.env) :: starEach [e2] X.env := by rfl) (hpl : (backTo pos (starEach [e2] X.env)).any (·.1) = false := by rfl) :
    PI X (.Tuple elts kk tpos) (.Call (.Name "zip" p) [e, e2] [] pos) (iZipN X.K ta) := by
  refine ⟨fun pins s σ H R I h => ?_⟩
  refine Call_ (ld_blt I hg hm PyProof.Rows.boot_zip (PyProof.Rows.callWith_type1 (thn (ha.run pos pins s σ H _ I h) fun us s1 hh => ?_) hs hpl))
  obtain ⟨vs, H1, I1, r1, a, b, xs, ys, rfl, hqx, hqy, q⟩ := hh
  obtain ⟨u, v, rfl, r, r'⟩ := vals2 r1
  cases r
  cases r'
  obtain ⟨its, rv, p1, _⟩ := I1.tuple hqx
  obtain ⟨jts, rv2, p2, _⟩ := I1.list hqy
  obtain ⟨o2, ho2, _⟩ := id p1
  have IT : s1.heap.IsTuple a its.toArray := p1
  have f5 : ∀ c, c ∈ ([s1.heap.objs.size + 4, s1.heap.objs.size + 2, s1.heap.objs.size + 3, s1.heap.objs.size, s1.heap.objs.size + 1] : List Addr) → FpOk X pins H1 c := fun c hcm => by
    have hle : s1.heap.objs.size ≤ c := by
      rcases five hcm with rfl | rfl | rfl | rfl | rfl
      · exact Nat.le_add_right _ _
      · exact Nat.le_add_right _ _
      · exact Nat.le_add_right _ _
      · exact Nat.le_refl _
      · exact Nat.le_add_right _ _
    exact I1.fpOk hle (I1.hok.fresh hle)
  refine zip_begins2 (begins_tuple a its.toArray) (begins_list b jts.toArray) IT p2.isList fun h' hz hT hO g1 g2 _ hk => wpAny_pyIter_zip hz ?_
  exact ⟨s1.heap.objs.size + 4, _, _, _, H1, rfl, I1.kept (t' := s1.toks) hk, turn_zipN (Heap.lt_size ho2) p2.lt, ⟨hz, hT, ⟨_, _, hO⟩, ⟨_, g1, rfl, rfl⟩, ⟨_, g2, rfl, rfl⟩⟩, f5, q⟩
section
variable {K : PySem.W.Frag} {σ : L2.St} {H H1 : Hp} {ts : TA} {te : TE} {vs : List Nat} {a b : Addr} {xs ys : List V} {i1 i2 : Nat}
theorem rd_iZN {R : It → Hp → Prop} (h : ts σ H fun vs H1 => ∃ (a b : Addr) (xs ys : List V), vs = [.ref a, .ref b] ∧ SqT K H1 a xs ∧ SqL K H1 b ys ∧ R (ItzN K a b) H1) : iZipN K ts σ H R := h
theorem rd_atN {P : Addr → Addr → Prop} (h : SqT K H a xs) (h' : SqL K H b ys) (q : P a b) : ∃ (c d : Addr) (zs ws : List V), [V.ref a, V.ref b] = [.ref c, .ref d] ∧ SqT K H c zs ∧ SqL K H d ws ∧ P c d := ⟨a, b, xs, ys, rfl, h, h', q⟩
theorem walk_zipN {n : Nat} (hn : n = min xs.length ys.length) : Walk (ItzN K a b) n (fun H => SqT K H a xs ∧ SqL K H b ys)
    (fun i H v H' => ∃ (T : Addr) (x y : V), v = .ref T ∧ H T = none ∧ H' = upd H T (.tup [x, y]) ∧ xs[i]? = some x ∧ ys[i]? = some y) := by
  subst hn
  refine ⟨fun i _ hi q => ?_, fun _ q => ⟨xs, ys, q.1, q.2, rfl⟩, fun i H v H' _ q y => ?_⟩
  · have h1 : i < xs.length := by omega
    have h2 : i < ys.length := by omega
    exact ⟨xs, ys, xs[i], ys[i], q.1, q.2, List.getElem?_eq_getElem h1, List.getElem?_eq_getElem h2⟩
  · obtain ⟨T, x, z, h1, h2, h3, h4, h5⟩ := y
    exact ⟨T, x, z, h1, h2, h3, h4 xs q.1, h5 ys q.2⟩
open Evl in
theorem lc_zipN {Dl : Addr} {Qd : Hp → Prop} (v : Nat → V) (hl : xs.length = ys.length) (hn : xs.length ≤ 1000000) (hD : H1 Dl = none)
    (hx : SqT K H1 a xs) (hy : SqL K H1 b ys) (hw : ∀ x y, wipe (((wipe σ vs).set i1 (some x)).set i2 (some y)) vs = wipe σ vs)
    (he : ∀ i x y H' (R : VK), xs[i]? = some x → ys[i]? = some y → Same H1 H' → (∀ H'', Same H' H'' → R (v i) H'') →
      te (((wipe σ vs).set i1 (some x)).set i2 (some y)) H' R)
    (hd : ∀ H', Same H1 H' → H' Dl = some (.lst ((List.range xs.length).map v)) → Qd H') :
    ∃ W : Nat → Nat → Hp → Prop, (∃ m, W 0 m (upd H1 Dl (.lst []))) ∧ ∀ i m H, W i m H →
      ((ItzN K a b).stop i H ∧ Qd H) ∨ ((ItzN K a b).go i H ∧ ∃ Nx : Hp → Prop, (∀ H', Nx H' → ∃ m', m' < m ∧ W (i + 1) m' H') ∧
        ∀ x H', (ItzN K a b).yld i H x H' → gTup K 2 (gCons (gName i1) (gCons (gName i2) gNil)) x (wipe σ vs) H' fun σ2 H2 => wipe σ2 vs = wipe σ vs ∧ tYes σ2 H2 fun b H3 =>
          if b = true then te σ2 H3 fun y H4 => ∃ acc, H4 Dl = some (.lst acc) ∧ acc.length < sizeLine ∧ Nx (upd H4 Dl (.lst (acc ++ [y]))) else Nx H3) := by
  refine lc_it (walk_zipN (n := xs.length) (xs := xs) (ys := ys) (by omega)) (fun i H' => Same H1 H' ∧ H' Dl = some (.lst ((List.range i).map v)))
    ⟨Same.new hD _, upd_same⟩ (fun i H' _ p => ⟨p.1.seqT hx, sqL_same p.1 hy⟩) ?_ fun H' p => hd H' p.1 p.2
  rintro i z H H' hi ⟨s, e⟩ ⟨T, x, y, rfl, nT, rfl, ex, ey⟩
  have s' : Same H1 (upd H T (.tup [x, y])) := s.trans (Same.new nT _)
  have nDT : Dl ≠ T := ne_of_none e nT
  refine rd_gtup (xs := [x, y]) (sqT upd_same) rfl (rd_gcons (rd_gname (rd_gcons (rd_gname (rd_gnil ⟨hw x y, ?_⟩)))))
  refine rd_yes (iteT (he i x y _ _ ex ey s' fun H'' s'' => ⟨(List.range i).map v, s'' _ _ (by rw [upd_ne nDT]; exact e), ?_, ?_, ?_⟩))
  · rw [List.length_map, List.length_range, sizeLine_eq]
    omega
  · exact Same.put (s'.trans s'') hD _
  · rw [upd_same, List.range_succ, List.map_append]
    rfl
end
end Gd

/-! # enumerate of a tuple -/
namespace Gd
open PySem PySem.Spec PyProof.Rows L2
theorem meets_enumB {v : Value} {o : Obj} {H : Heap → Prop} (B : Begins v o H) :
    Meets (Builtin.«enumerate.__new__» ⟨[.type "enumerate", v], []⟩) (fun _ R s => H s.heap ∧
      R (.ok (.ret (.ref (s.heap.push o).objs.size))) { s with heap := (s.heap.push o).push { cls := .type "enumerate", data := .fields #[.none, .bool false, .ref s.heap.objs.size, rawInt 0, .none, .none] } }) :=
  .of_wp fun prog w A R s h => by
    obtain ⟨hp, g, d, tk, os⟩ := s; obtain ⟨h1, h⟩ := h
    have hsub := sub_enumerate
    have q1 : ∀ {A' : Around} {E : Value → Shared → Prop} {Q : Value → Shared → Prop}, Q (.ref hp.objs.size) ⟨hp.push o, g, d, tk, os⟩ → wpAny (model prog w) A' (pyIter v) Q E ⟨hp, g, d, tk, os⟩ :=
      fun q => B.iter prog w _ _ ⟨hp, g, d, tk, os⟩ _ h1 q
    wp_walk using q1
    refine wpAny_stack_any fun st => wpAny_pure ?_
    split
    · rename_i c _ _ _ _ _
      cases (c == Value.type "enumerate")
      · wp_walk using q1
        exact ⟨_, rfl, h⟩
      · wp_walk using q1
        exact ⟨_, rfl, h⟩
    · wp_walk using q1
      exact ⟨_, rfl, h⟩
section
variable {prog : Program} {w : World} {A : Around} {E : Value → Shared → Prop} {s : Shared}
theorem enum_begins1 {v : Value} {o : Obj} {H : Heap → Prop} {Q : Value → Shared → Prop} (B : Begins v o H) (h1 : H s.heap)
    (h : ∀ h', IsEnum h' (s.heap.objs.size + 1) s.heap.objs.size 0 .none → h'.get? s.heap.objs.size = some o → h'.objs.size = s.heap.objs.size + 2 →
      (∀ b o, s.heap.get? b = some o → h'.get? b = some o) → Q (.ref (s.heap.objs.size + 1)) { s with heap := h' }) :
    wpAny (model prog w) A (call (.type "enumerate") [v]) Q E s := by
  refine callType_new F.called_enumerate (by decide) (F.typeCall_enumerate_1 _) (F.newCall_enumerate_1 _) (fun obj => F.args_object_init_2 obj _) F.entry_enumerate_new
    (meets_enumB B) ⟨h1, ?_⟩
  have hz : (s.heap.push o).objs.size = s.heap.objs.size + 1 := Heap.size_push ..
  show _ ∧ _
  rw [hz]
  have he : IsEnum ((s.heap.push o).push { cls := .type "enumerate", data := .fields #[.none, .bool false, .ref s.heap.objs.size, rawInt 0, .none, .none] }) (s.heap.objs.size + 1) s.heap.objs.size 0 .none := by
    have := Heap.get?_push_size (s.heap.push o) (o := { cls := .type "enumerate", data := .fields #[.none, .bool false, .ref s.heap.objs.size, rawInt 0, .none, .none] }) rfl
    rw [hz] at this
    exact this
  refine ⟨⟨_, he, rfl⟩, ?_⟩
  refine h _ he (Heap.get?_push_of_some _ (Heap.get?_push_size _ B.free)) ?_ fun b ob e => Heap.get?_push_of_some _ (Heap.get?_push_of_some _ e)
  rw [Heap.size_push, hz]
end
/-- the tuple at a, as it stands at each turn: the count and the item in a new pair -/
def IteT (K : PySem.W.Frag) (a : Addr) : It where
  go i H := ∃ (xs : List V) (x : V), SqT K H a xs ∧ xs[i]? = some x
  yld i H v H' := ∃ (T : Addr) (x : V), v = .ref T ∧ H T = none ∧ H' = upd H T (.tup [.int (i : Nat), x]) ∧ ∀ xs, SqT K H a xs → xs[i]? = some x
  stop i H := ∃ xs : List V, SqT K H a xs ∧ i = xs.length
def enT (N a : Addr) : Nat → Heap → Prop := fun i h => (∃ old, IsEnum h (N + 1) N (0 + ((i : Nat) : Int)) old) ∧ h.IsTupleIter N a i
theorem two_ {N c : Addr} (h : c ∈ ([N + 1, N] : List Addr)) : c = N + 1 ∨ c = N := by simpa using h
theorem turn_enT {P : Program} {w : World} {K : PySem.W.Frag} {elts : List Expr} {kk : Nat} {tpos : Pos} {N a : Addr} (ha : a < N) :
    Turn P w K (.Tuple elts kk tpos) (IteT K a) [N + 1, N] (N + 1) (enT N a) where
  mem := List.mem_cons_self ..
  obj := by
    rintro i h ⟨⟨old, he⟩, ⟨o1, e1, _, d1⟩⟩ c hc
    rcases two_ hc with rfl | rfl
    · exact ⟨_, he, fun v q => nomatch q⟩
    · exact ⟨o1, e1, fun v q => by rw [d1] at q; cases q⟩
  keep := by
    rintro i h h' ⟨⟨old, he⟩, h1⟩ k
    exact ⟨⟨old, k _ (by simp) _ he⟩, h1.at fun o q => k _ (by simp) o q⟩
  item := by
    rintro X rfl rfl rfl hc i pins s σ H E I hf ⟨he, h1⟩ ⟨xs, x, hx, ex⟩
    obtain ⟨its, rv, p1, _⟩ := I.tuple hx
    obtain ⟨u, hu, ru⟩ := rv.get ex
    have hh : X.A.in1.handled = none := I.ok.hd hc
    have D := Draws.tuple (prog := X.prog) (w := X.w) (A := X.A.in1) hh N a (Nat.ne_of_lt ha) its.toArray
    have G := GoesN.enumFrom (elts := elts) (x1 := kk) (pos := tpos) 0 D (N + 1) (Nat.succ_ne_self N) (fun hm => by
      simp only [List.mem_cons, List.not_mem_nil, or_false] at hm
      rcases hm with e | e
      · exact Nat.succ_ne_self N e
      · exact absurd ha (by rw [← e]; exact Nat.not_lt.mpr (Nat.le_succ N))) (by simp)
    have li : i < its.length := (List.getElem?_eq_some_iff.mp hu).1
    have IT : s.heap.IsTuple a its.toArray := p1
    refine G.goes i s _ E (by rw [List.size_toArray]; exact li) ⟨he, h1, IT⟩ fun r h' tk hY st hk _ => ?_
    obtain ⟨T, t, x', rfl, hnew, hx', hTT⟩ := hY
    have exu : x' = u := Option.some.inj ((show some x' = some u by rw [← hx', ← hu]; simp))
    subst exu
    have hTT : h'.IsTuple T #[.int (i : Int) t, x'] := by rw [Int.zero_add] at hTT; exact hTT
    have new : ObjOk X.prog X.w (upd H T (.tup [.int (i : Nat), x])) h' T (.tup [.int (i : Nat), x]) := ⟨by show 2 ≤ sizeLine; decide, [.int (i : Int) t, x'], .cons ⟨_, rfl⟩ (.cons ru .nil), hTT⟩
    have J := I.turnedNew (t' := tk) (ch := [N + 1, N]) (fun c o hcc q => hk c o hcc q) hf hnew new
    refine ⟨.ref T, _, J, rfl, ⟨T, x, rfl, I.hok.fresh hnew, rfl, fun l hl => by rw [I.tuple_inj hl hx]; exact ex⟩, ⟨st.1, st.2.1⟩, fun c hcm => ?_⟩
    have hlt : c < s.heap.objs.size := by
      obtain ⟨o1, e1, _⟩ := h1
      obtain ⟨old, he⟩ := he
      rcases two_ hcm with rfl | rfl
      · exact Heap.lt_size he
      · exact Heap.lt_size e1
    rw [upd_ne (Nat.ne_of_lt (Nat.lt_of_lt_of_le hlt hnew))]
    exact (hf c hcm).1
  done := by
    rintro X rfl rfl rfl hc i pins s σ H E I hf ⟨he, h1⟩ ⟨xs, hx, rfl⟩
    obtain ⟨its, rv, p1, _⟩ := I.tuple hx
    have hh : X.A.in1.handled = none := I.ok.hd hc
    have D := Draws.tuple (prog := X.prog) (w := X.w) (A := X.A.in1) hh N a (Nat.ne_of_lt ha) its.toArray
    have G := GoesN.enumFrom (elts := elts) (x1 := kk) (pos := tpos) 0 D (N + 1) (Nat.succ_ne_self N) (fun hm => by
      simp only [List.mem_cons, List.not_mem_nil, or_false] at hm
      rcases hm with e | e
      · exact Nat.succ_ne_self N e
      · exact absurd ha (by rw [← e]; exact Nat.not_lt.mpr (Nat.le_succ N))) (by simp)
    have IT : s.heap.IsTuple a its.toArray := p1
    have e : xs.length = its.toArray.size := by rw [List.size_toArray, rv.length]
    rw [e] at h1 he
    exact G.stops s _ E ⟨he, h1, IT⟩ fun h' tk hk _ => I.turnedL (t' := tk) (ch := [N + 1, N]) (fun c o hcc q => hk c o hcc q) hf
  self := fun A i s Q E st h => let ⟨old, he⟩ := st.1; wpAny_pyIter_enum he h
def iEnumT (K : PySem.W.Frag) (ta : TA) : TI := fun σ H R => ta σ H fun vs H1 => ∃ (a : Addr) (xs : List V), vs = [.ref a] ∧ SqT K H1 a xs ∧ R (IteT K a) H1
theorem pi_enumT {X : Cx} {e : Expr} {ta : TA} {p pos tpos : Pos} {elts : List Expr} {kk : Nat} (hg : Gl X "enumerate") (hm : X.mg "enumerate" = none) (ha : PA X [e] ta) (hs : starEach [e] X.env = [(false, eval e X.env)] := by rfl) :
    PI X (.Tuple elts kk tpos) (.Call (.Name "enumerate" p) [e] [] pos) (iEnumT X.K ta) := by
  refine ⟨fun pins s σ H R I h => ?_⟩
  refine Call_ (ld_blt I hg hm boot_enumerate (callWith_type1 (thn (ha.run pos pins s σ H _ I h) fun us s1 ⟨vs, H1, I1, r1, q1⟩ => ?_) hs rfl))
  obtain ⟨a, xs, rfl, hq, q⟩ := q1
  obtain ⟨u, rfl, r⟩ := vals1 r1
  cases r
  obtain ⟨its, rv, p1, _⟩ := I1.tuple hq
  obtain ⟨o2, ho2, _⟩ := id p1
  have IT : s1.heap.IsTuple a its.toArray := p1
  have f2 : ∀ c, c ∈ ([s1.heap.objs.size + 1, s1.heap.objs.size] : List Addr) → FpOk X pins H1 c := fun c hcm => by
    have hle : s1.heap.objs.size ≤ c := by
      rcases two_ hcm with rfl | rfl
      · exact Nat.le_add_right _ _
      · exact Nat.le_refl _
    exact I1.fpOk hle (I1.hok.fresh hle)
  refine enum_begins1 (begins_tuple a its.toArray) IT fun h' he g1 _ hk => wpAny_pyIter_enum he ?_
  exact ⟨s1.heap.objs.size + 1, _, _, _, H1, rfl, I1.kept (t' := s1.toks) hk, turn_enT (Heap.lt_size ho2), ⟨⟨_, he⟩, ⟨_, g1, rfl, rfl⟩⟩, f2, q⟩
section
variable {K : PySem.W.Frag} {σ : L2.St} {H : Hp} {a : Addr} {xs : List V}
theorem rd_iET {R : It → Hp → Prop} {ts : TA} (h : ts σ H fun vs H1 => ∃ (a : Addr) (xs : List V), vs = [.ref a] ∧ SqT K H1 a xs ∧ R (IteT K a) H1) : iEnumT K ts σ H R := h
theorem rd_atE {P : Addr → Prop} (h : SqT K H a xs) (q : P a) : ∃ (c : Addr) (zs : List V), [V.ref a] = [.ref c] ∧ SqT K H c zs ∧ P c := ⟨a, xs, rfl, h, q⟩
theorem walk_enT {n : Nat} (hn : n = xs.length) : Walk (IteT K a) n (fun H => SqT K H a xs)
    (fun i H v H' => ∃ (T : Addr) (x : V), v = .ref T ∧ H T = none ∧ H' = upd H T (.tup [.int (i : Nat), x]) ∧ xs[i]? = some x) := by
  subst hn
  refine ⟨fun i _ hi q => ⟨xs, xs[i], q, List.getElem?_eq_getElem hi⟩, fun _ q => ⟨xs, q, rfl⟩, fun i H v H' _ q y => ?_⟩
  obtain ⟨T, x, h1, h2, h3, h4⟩ := y
  exact ⟨T, x, h1, h2, h3, h4 xs q⟩
end
end Gd

/-! # name = {k: v for ..} on one line -/
namespace L2
open PySem PySem.Spec PyProof.Rows
variable {X : Cx}
theorem ps_setDc {i : Nat} {y : Str} {py : Pos} {kx vx tg iter : Expr} {ifs : List Expr} {scope : Scope} {own : List (Str × Nat)} {pos spos : Pos} {wi : TI} {g : TG} {tt : TT} {tk tv : TE} (hc : X.calm = true) (hN : X.N.Nodup) (hy : X.N[i]? = some y) (hyl : X.env.scope.names.lookup y = some .local)
    (hsw : swapsWith (.DictComp kx vx [⟨tg, iter, ifs, 0⟩] scope pos) (some (.Name y py)) spos.line X.env = pure true) (hi : PI X tg iter wi) (ok : BlkOk X.N X.env.scope scope own)
    (hg : ∀ (s : Shared) (H : Hp) (C : Addr) (cl : List (Str × Addr)) (fp : List Addr), PG (X.blk s H scope (compEnvC scope cl C X.env) fp) tg g) (ht : ∀ (s : Shared) (H : Hp) (C : Addr) (cl : List (Str × Addr)) (fp : List Addr), PTs (X.blk s H scope (compEnvC scope cl C X.env) fp) ifs tt)
    (hk : ∀ (s : Shared) (H : Hp) (C : Addr) (cl : List (Str × Addr)) (fp : List Addr), PE (X.blk s H scope (compEnvC scope cl C X.env) fp) kx tk)
    (he : ∀ (s : Shared) (H : Hp) (C : Addr) (cl : List (Str × Addr)) (fp : List Addr), PE (X.blk s H scope (compEnvC scope cl C X.env) fp) vx tv) (hs : ∀ x, foldedSetIterable iter X.env x = pure x := by intro _; rfl) :
    PS X (.Assign [.Name y py] (.DictComp kx vx [⟨tg, iter, ifs, 0⟩] scope pos) spos) (tAsg (tDc wi g tt tk tv (own.map (·.2))) (gName i)) := by
  refine ⟨fun pins s σ H D I h => ?_⟩
  rw [exec_Assign_Name_used _ _ _ _ hsw]
  refine wpAny_bind (wpAny_standAt (wpAny_bind ?_))
  show wpAny _ X.A (do let _ ← comprehension (.DictComp kx vx [⟨tg, iter, ifs, 0⟩] scope pos) scope X.env (firstIterPos [⟨tg, iter, ifs, 0⟩] pos) newDict false (eval iter X.env) (some (assign (.Name y py) X.env))) _ _ s
  have h : tDc wi g tt tk tv (own.map (·.2)) σ H (fun x H1 => gName i x σ H1 D.nx) := h
  refine wpAny_bind (thn (dc_core (Qf := fun _ s' => SP X pins D .next s') hc hN I hi ok hg ht hk he hs h fun L C s' m H' I' q hn f => ?_) fun _ s' hq => wpAny_pure (wpAny_pure hq))
  show wpAny _ _ (assign (.Name y py) X.env (.ref L)) _ _ _
  refine wpAny_assign_Name (store_ok2 (v := V.ref L) I' hN hy (.inl hyl) rfl (fun s2 I2 ⟨a, sb, ha⟩ => ?_) (.inr hyl))
  obtain ⟨f0, f1, f2, f3, f4, f5⟩ := f
  have haC : C ≠ a := by
    rcases ha with z | z
    · rw [z]; exact f1
    · exact fun e => f4 y a z e.symm
  refine ⟨m, hn.sameBut sb haC, fun h3 sb3 => ?_⟩
  exact ⟨_, H', I2.turned (t' := s2.toks) (fun b o hb e => (sb3.2 b hb).trans e) f0 f1 f3 f4 f5, q⟩
theorem sw_trueD {kx vx : Expr} {gs : List Comprehension} {scope : Scope} {pos py : Pos} {y : Str} {l : Nat} {env : Env} (hk : env.scope.kind = .function) (hy : env.scope.names.lookup y = some .local) (hl : (py.line == pos.line) = true)
    (ha : (scope.names.any fun (n, k) => n == y && (k == .local || k == .cell)) = false) : swapsWith (.DictComp kx vx gs scope pos) (some (.Name y py)) l env = pure true := by
  have ky : env.kindOf y = some .local := hy
  have hb : env.blockKind = .function := by unfold Env.blockKind; rw [hk]; rfl
  unfold swapsWith
  simp only [hb, ky, ha, Expr.pos, hl]
  rfl
end L2
namespace L2
open PySem PySem.Spec PyProof.Rows Gd
theorem pi_tupK {X : Cx} {tg l : Expr} {tl : TE} (K : PySem.W.Frag) (hl : PE X l tl) (h : X.K = K := by rfl) : PI X tg l (iTup K tl) := h ▸ pi_tup hl
theorem pi_listK {X : Cx} {tg l : Expr} {tl : TE} (K : PySem.W.Frag) (hl : PE X l tl) (h : X.K = K := by rfl) : PI X tg l (iList K tl) := h ▸ pi_list hl
end L2

/-! # zip of a tuple and two lists -/
namespace Gd
open PySem PySem.Spec PyProof.Rows L2
/-- the tuple at a, the lists at b and c, as they stand at each turn, the items in new triples -/
def ItzT3 (K : PySem.W.Frag) (a b c : Addr) : It where
  go i H := ∃ (xs ys zs : List V) (x y z : V), SqT K H a xs ∧ SqL K H b ys ∧ SqL K H c zs ∧ xs[i]? = some x ∧ ys[i]? = some y ∧ zs[i]? = some z
  yld i H v H' := ∃ (T : Addr) (x y z : V), v = .ref T ∧ H T = none ∧ H' = upd H T (.tup [x, y, z]) ∧ (∀ xs, SqT K H a xs → xs[i]? = some x) ∧ (∀ ys, SqL K H b ys → ys[i]? = some y) ∧ ∀ zs, SqL K H c zs → zs[i]? = some z
  stop i H := ∃ xs ys zs : List V, SqT K H a xs ∧ SqL K H b ys ∧ SqL K H c zs ∧ i = min (min xs.length ys.length) zs.length
def zn3 (N a b c : Addr) : Nat → Heap → Prop := fun i h => IsZip h (N + 5) (N + 3) (N + 4) .none ∧ IsTupOf3 h (N + 3) (.ref N) (.ref (N + 1)) (.ref (N + 2)) ∧ (∃ u v q, IsTupOf3 h (N + 4) u v q) ∧ h.IsTupleIter N a i ∧ h.IsListIter (N + 1) b i ∧ h.IsListIter (N + 2) c i
theorem six {N c : Addr} (h : c ∈ ([N + 5, N + 3, N + 4, N, N + 1, N + 2] : List Addr)) : c = N + 5 ∨ c = N + 3 ∨ c = N + 4 ∨ c = N ∨ c = N + 1 ∨ c = N + 2 := by simpa using h
theorem five3 {N c : Addr} (h : c ∈ ([N + 5, N + 4, N, N + 1, N + 2] : List Addr)) : c ∈ ([N + 5, N + 3, N + 4, N, N + 1, N + 2] : List Addr) := by
  simp only [List.mem_cons, List.not_mem_nil, or_false] at h ⊢
  rcases h with h | h | h | h | h
  · exact .inl h
  · exact .inr (.inr (.inl h))
  · exact .inr (.inr (.inr (.inl h)))
  · exact .inr (.inr (.inr (.inr (.inl h))))
  · exact .inr (.inr (.inr (.inr (.inr h))))
theorem lt_1 {a N : Nat} (h : a < N) : a < N + 1 := Nat.lt_succ_of_lt h
theorem lt_2 {a N : Nat} (h : a < N) : a < N + 2 := Nat.lt_succ_of_lt (Nat.lt_succ_of_lt h)
theorem turn_zip3 {P : Program} {w : World} {K : PySem.W.Frag} {elts : List Expr} {kk : Nat} {tpos : Pos} {N a b c : Addr} (ha : a < N) (hb : b < N) (hc3 : c < N) :
    Turn P w K (.Tuple elts kk tpos) (ItzT3 K a b c) [N + 5, N + 3, N + 4, N, N + 1, N + 2] (N + 5) (zn3 N a b c) where
  mem := List.mem_cons_self ..
  obj := by
    rintro i h ⟨hz, hT, ⟨u, v, q, hO⟩, ⟨o1, e1, _, d1⟩, ⟨o2, e2, _, d2⟩, ⟨o3, e3, _, d3⟩⟩ c hc
    rcases six hc with rfl | rfl | rfl | rfl | rfl | rfl
    · exact ⟨_, hz, fun v q => nomatch q⟩
    · exact ⟨_, hT, fun v q => nomatch q⟩
    · exact ⟨_, hO, fun v q => nomatch q⟩
    · exact ⟨o1, e1, fun v q => by rw [d1] at q; cases q⟩
    · exact ⟨o2, e2, fun v q => by rw [d2] at q; cases q⟩
    · exact ⟨o3, e3, fun v q => by rw [d3] at q; cases q⟩
  keep := by
    rintro i h h' ⟨hz, hT, ⟨u, v, q, hO⟩, h1, h2, h3⟩ k
    exact ⟨k _ (by simp) _ hz, k _ (by simp) _ hT, ⟨u, v, q, k _ (by simp) _ hO⟩, h1.at fun o q => k _ (by simp) o q, h2.at fun o q => k _ (by simp) o q, h3.at fun o q => k _ (by simp) o q⟩
  item := by
    rintro X rfl rfl rfl hc i pins s σ H E I hf ⟨hz, hT, hO, h1, h2, h3⟩ ⟨xs, ys, zs, x, y, z, hx, hy, hz3, ex, ey, ez⟩
    obtain ⟨its, rv, p1, _⟩ := I.tuple hx
    obtain ⟨jts, rw', p2, _⟩ := I.list hy
    obtain ⟨kts, rw3, p3, _⟩ := I.list hz3
    obtain ⟨u, hu, ru⟩ := rv.get ex
    obtain ⟨v, hv, rv2⟩ := rw'.get ey
    obtain ⟨q, hq, rq⟩ := rw3.get ez
    have hh : X.A.in1.handled = none := I.ok.hd hc
    have S : ZipSep3 (N + 5) (N + 3) (N + 4) N (N + 1) (N + 2) [N, a] [N + 1, b] [N + 2, c] := zip_sep3 (fp1 := [a]) (fp2 := [b]) (fp3 := [c]) (fun c hc => by rw [List.mem_singleton.mp hc]; exact ha) (fun c hc => by rw [List.mem_singleton.mp hc]; exact hb) (fun c hc => by rw [List.mem_singleton.mp hc]; exact hc3)
    have D1 := Draws.tuple (prog := X.prog) (w := X.w) (A := X.A.in1) hh N a (Nat.ne_of_lt ha) its.toArray
    have D2 := Draws.list (prog := X.prog) (w := X.w) (A := X.A.in1) hh (N + 1) b (Nat.ne_of_lt (lt_1 hb)) jts.toArray
    have D3 := Draws.list (prog := X.prog) (w := X.w) (A := X.A.in1) hh (N + 2) c (Nat.ne_of_lt (lt_2 hc3)) kts.toArray
    have G := GoesN.zip3 (elts := elts) (x1 := kk) (pos := tpos) S D1 D2 D3
    have li : i < its.length := (List.getElem?_eq_some_iff.mp hu).1
    have lj : i < jts.length := (List.getElem?_eq_some_iff.mp hv).1
    have lk : i < kts.length := (List.getElem?_eq_some_iff.mp hq).1
    have IT : s.heap.IsTuple a its.toArray := p1
    refine G.goes i s _ E (by rw [List.size_toArray, List.size_toArray, List.size_toArray]; omega) ⟨hz, hT, hO, ⟨h1, IT⟩, ⟨h2, p2.isList⟩, ⟨h3, p3.isList⟩⟩ fun r h' tk hY st hk _ => ?_
    obtain ⟨T, x', y', z', rfl, hnew, hx', hy', hz', hTT⟩ := hY
    have exu : x' = u := Option.some.inj ((show some x' = some u by rw [← hx', ← hu]; simp))
    have eyv : y' = v := Option.some.inj ((show some y' = some v by rw [← hy', ← hv]; simp))
    have ezq : z' = q := Option.some.inj ((show some z' = some q by rw [← hz', ← hq]; simp))
    subst exu
    subst eyv
    subst ezq
    have new : ObjOk X.prog X.w (upd H T (.tup [x, y, z])) h' T (.tup [x, y, z]) := ⟨by show 3 ≤ sizeLine; decide, [x', y', z'], .cons ru (.cons rv2 (.cons rq .nil)), hTT⟩
    have J := I.turnedNew (t' := tk) (ch := [N + 5, N + 3, N + 4, N, N + 1, N + 2]) (fun c o hcc q => hk c o (fun z => hcc (five3 z)) q) hf hnew new
    refine ⟨.ref T, _, J, rfl, ⟨T, x, y, z, rfl, I.hok.fresh hnew, rfl, fun l hl => by rw [I.tuple_inj hl hx]; exact ex, fun l hl => by rw [I.list_inj hl hy]; exact ey, fun l hl => by rw [I.list_inj hl hz3]; exact ez⟩, ⟨st.1, st.2.1, st.2.2.1, st.2.2.2.1.1, st.2.2.2.2.1.1, st.2.2.2.2.2.1⟩, fun c hcm => ?_⟩
    have hlt : c < s.heap.objs.size := by
      obtain ⟨o1, e1, _⟩ := h1
      obtain ⟨o2, e2, _⟩ := h2
      obtain ⟨o4, e4, _⟩ := h3
      obtain ⟨u0, v0, q0, e3⟩ := hO
      rcases six hcm with rfl | rfl | rfl | rfl | rfl | rfl
      · exact Heap.lt_size hz
      · exact Heap.lt_size hT
      · exact Heap.lt_size e3
      · exact Heap.lt_size e1
      · exact Heap.lt_size e2
      · exact Heap.lt_size e4
    rw [upd_ne (Nat.ne_of_lt (Nat.lt_of_lt_of_le hlt hnew))]
    exact (hf c hcm).1
  done := by
    rintro X rfl rfl rfl hc i pins s σ H E I hf ⟨hz, hT, hO, h1, h2, h3⟩ ⟨xs, ys, zs, hx, hy, hz3, rfl⟩
    obtain ⟨its, rv, p1, _⟩ := I.tuple hx
    obtain ⟨jts, rw', p2, _⟩ := I.list hy
    obtain ⟨kts, rw3, p3, _⟩ := I.list hz3
    have hh : X.A.in1.handled = none := I.ok.hd hc
    have S : ZipSep3 (N + 5) (N + 3) (N + 4) N (N + 1) (N + 2) [N, a] [N + 1, b] [N + 2, c] := zip_sep3 (fp1 := [a]) (fp2 := [b]) (fp3 := [c]) (fun c hc => by rw [List.mem_singleton.mp hc]; exact ha) (fun c hc => by rw [List.mem_singleton.mp hc]; exact hb) (fun c hc => by rw [List.mem_singleton.mp hc]; exact hc3)
    have D1 := Draws.tuple (prog := X.prog) (w := X.w) (A := X.A.in1) hh N a (Nat.ne_of_lt ha) its.toArray
    have D2 := Draws.list (prog := X.prog) (w := X.w) (A := X.A.in1) hh (N + 1) b (Nat.ne_of_lt (lt_1 hb)) jts.toArray
    have D3 := Draws.list (prog := X.prog) (w := X.w) (A := X.A.in1) hh (N + 2) c (Nat.ne_of_lt (lt_2 hc3)) kts.toArray
    have G := GoesN.zip3 (elts := elts) (x1 := kk) (pos := tpos) S D1 D2 D3
    have IT : s.heap.IsTuple a its.toArray := p1
    have e : min (min xs.length ys.length) zs.length = min (min its.toArray.size jts.toArray.size) kts.toArray.size := by rw [List.size_toArray, List.size_toArray, List.size_toArray, rv.length, rw'.length, rw3.length]
    rw [e] at h1 h2 h3
    exact G.stops s _ E ⟨hz, hT, hO, ⟨h1, IT⟩, ⟨h2, p2.isList⟩, ⟨h3, p3.isList⟩⟩ fun h' tk hk _ => I.turnedL (t' := tk) (ch := [N + 5, N + 3, N + 4, N, N + 1, N + 2]) (fun c o hcc q => hk c o (fun z => hcc (five3 z)) q) hf
  self := fun A i s Q E st h => wpAny_pyIter_zip st.1 h
def iZip3 (K : PySem.W.Frag) (ta : TA) : TI := fun σ H R => ta σ H fun vs H1 => ∃ (a b c : Addr) (xs ys zs : List V), vs = [.ref a, .ref b, .ref c] ∧ SqT K H1 a xs ∧ SqL K H1 b ys ∧ SqL K H1 c zs ∧ R (ItzT3 K a b c) H1
theorem vals3' {P : Program} {w : World} {H : Hp} {h : Heap} {a b c : V} : True := trivial
theorem pi_zip3 {X : Cx} {e e2 e3 : Expr} {ta : TA} {p pos tpos : Pos} {elts : List Expr} {kk : Nat} (hg : Gl X "zip") (hm : X.mg "zip" = none) (ha : PA X [e, e2, e3] ta)
    (hs : starEach [e, e2, e3] X.env = (false, eval e X.env) :: starEach [e2, e3] X.env := by rfl) (hpl : (backTo pos (starEach [e2, e3] X.env)).any (·.1) = false := by rfl) :
    PI X (.Tuple elts kk tpos) (.Call (.Name "zip" p) [e, e2, e3] [] pos) (iZip3 X.K ta) := by
  refine ⟨fun pins s σ H R I h => ?_⟩
  refine Call_ (ld_blt I hg hm PyProof.Rows.boot_zip (PyProof.Rows.callWith_type1 (thn (ha.run pos pins s σ H _ I h) fun us s1 hh => ?_) hs hpl))
  obtain ⟨vs, H1, I1, r1, a, b, c, xs, ys, zs, rfl, hqx, hqy, hqz, q⟩ := hh
  cases r1 with
  | cons r r1 =>
  cases r1 with
  | cons r' r1 =>
  cases r1 with
  | cons r'' r1 =>
  cases r1
  cases r
  cases r'
  cases r''
  obtain ⟨its, rv, p1, _⟩ := I1.tuple hqx
  obtain ⟨jts, rv2, p2, _⟩ := I1.list hqy
  obtain ⟨kts, rv3, p3, _⟩ := I1.list hqz
  obtain ⟨o1, ho1, _⟩ := id p1
  have IT : s1.heap.IsTuple a its.toArray := p1
  have f5 : ∀ c, c ∈ ([s1.heap.objs.size + 5, s1.heap.objs.size + 3, s1.heap.objs.size + 4, s1.heap.objs.size, s1.heap.objs.size + 1, s1.heap.objs.size + 2] : List Addr) → FpOk X pins H1 c := fun c hcm => by
    have hle : s1.heap.objs.size ≤ c := by
      rcases six hcm with rfl | rfl | rfl | rfl | rfl | rfl
      · exact Nat.le_add_right _ _
      · exact Nat.le_add_right _ _
      · exact Nat.le_add_right _ _
      · exact Nat.le_refl _
      · exact Nat.le_add_right _ _
      · exact Nat.le_add_right _ _
    exact I1.fpOk hle (I1.hok.fresh hle)
  refine zip_begins3 (begins_tuple a its.toArray) (begins_list b jts.toArray) (begins_list c kts.toArray) IT p2.isList p3.isList fun h' hz hT hO g1 g2 g3 _ hk => wpAny_pyIter_zip hz ?_
  exact ⟨s1.heap.objs.size + 5, _, _, _, H1, rfl, I1.kept (t' := s1.toks) hk, turn_zip3 (Heap.lt_size ho1) p2.lt p3.lt, ⟨hz, hT, ⟨_, _, _, hO⟩, ⟨_, g1, rfl, rfl⟩, ⟨_, g2, rfl, rfl⟩, ⟨_, g3, rfl, rfl⟩⟩, f5, q⟩
end Gd

/-! # tuples of whole numbers in their order: min and max of two, >= -/
namespace Gd
open PySem PySem.Spec PyProof.Rows L2
theorem first_map (e r : Nat → Bool) (fin : Bool) (f : Nat → Nat) : ∀ l : List Nat, SeqAt.firstLt e r fin (l.map f) = SeqAt.firstLt (fun j => e (f j)) (fun j => r (f j)) fin l
  | [] => rfl
  | j :: l => by
    rw [List.map_cons, SeqAt.firstLt.eq_2, SeqAt.firstLt.eq_2, first_map e r fin f l]
def nAt (l : List Int) (j : Nat) : Int := l.getD j 0
theorem first_gt : ∀ ns ms : List Int, SeqAt.firstLt (fun j => nAt ns j == nAt ms j) (fun j => decide (nAt ns j > nAt ms j)) (decide (ns.length > ms.length)) (List.range (min ns.length ms.length)) = HT.lexLt ms ns
  | [], [] => rfl
  | [], b :: ms => by simp [HT.lexLt, SeqAt.firstLt.eq_1]
  | a :: ns, [] => by simp [HT.lexLt, SeqAt.firstLt.eq_1]
  | a :: ns, b :: ms => by
    have h := first_gt ns ms
    rw [HT.lexLt_cons, List.length_cons, List.length_cons, Nat.succ_min_succ, List.range_succ_eq_map, SeqAt.firstLt.eq_2, first_map]
    show (if (a == b) = true then SeqAt.firstLt (fun j => nAt ns j == nAt ms j) (fun j => decide (nAt ns j > nAt ms j)) (decide (ns.length + 1 > ms.length + 1)) (List.range (min ns.length ms.length)) else decide (a > b)) = _
    rw [show decide (ns.length + 1 > ms.length + 1) = decide (ns.length > ms.length) from by simp, h]
    by_cases c : a = b
    · simp [c]
    · have c' : ¬ b = a := fun z => c z.symm
      simp [c, c']
theorem first_ge : ∀ ns ms : List Int, SeqAt.firstLt (fun j => nAt ns j == nAt ms j) (fun j => decide (nAt ns j ≥ nAt ms j)) (decide (ns.length ≥ ms.length)) (List.range (min ns.length ms.length)) = !HT.lexLt ns ms
  | [], [] => rfl
  | [], b :: ms => by simp [HT.lexLt, SeqAt.firstLt.eq_1]
  | a :: ns, [] => by simp [HT.lexLt, SeqAt.firstLt.eq_1]
  | a :: ns, b :: ms => by
    have h := first_ge ns ms
    rw [HT.lexLt_cons, List.length_cons, List.length_cons, Nat.succ_min_succ, List.range_succ_eq_map, SeqAt.firstLt.eq_2, first_map]
    show (if (a == b) = true then SeqAt.firstLt (fun j => nAt ns j == nAt ms j) (fun j => decide (nAt ns j ≥ nAt ms j)) (decide (ns.length + 1 ≥ ms.length + 1)) (List.range (min ns.length ms.length)) else decide (a ≥ b)) = _
    rw [show decide (ns.length + 1 ≥ ms.length + 1) = decide (ns.length ≥ ms.length) from by simp, h]
    by_cases c : a = b
    · simp [c]
    · have c' : (a == b) = false := by simp [c]
      rw [c', if_neg (by simp), if_neg c]
      by_cases d : a < b
      · rw [decide_eq_true d, decide_eq_false (by omega)]; rfl
      · rw [decide_eq_false d, decide_eq_true (by omega)]; rfl
theorem its_at {its : Array Value} {ns : List Int} (h : IntsAre its.toList ns) : its.size = ns.length ∧ ∀ (j : Nat) (h1 : j < its.size), ∃ t, its[j] = .int (nAt ns j) t := by
  cases its with
  | mk l =>
    have key : ∀ (l : List Value) (ns : List Int), IntsAre l ns → l.length = ns.length ∧ ∀ (j : Nat) (h1 : j < l.length), ∃ t, l[j] = .int (nAt ns j) t := by
      intro l ns h
      induction h with
      | nil => exact ⟨rfl, fun j h => absurd h (Nat.not_lt_zero _)⟩
      | cons n t hi ih =>
        refine ⟨by simp [ih.1], fun j h1 => ?_⟩
        cases j with
        | zero => exact ⟨t, rfl⟩
        | succ j => exact ih.2 j (Nat.lt_of_succ_lt_succ h1)
    exact key l ns h
section
variable {prog : Program} {w : World} {A : Around} {s : Shared} {a b : Addr}
theorem rc_gt_int (x y : Int) (t u : Tok) : SeqAt.RcOp .Gt A s (.int x t) (.int y u) (decide (x > y)) := fun prog w E Q q =>
  CmpOf.ints_gt (P := fun i v => ∃ t, v = .int (if i = 0 then x else y) t) (fun i => if i = 0 then x else y) (fun i v h => h) 0 1 _ _ s Q E ⟨t, rfl⟩ ⟨u, rfl⟩ q
theorem rc_ge_int (x y : Int) (t u : Tok) : SeqAt.RcOp .GtE A s (.int x t) (.int y u) (decide (x ≥ y)) := fun prog w E Q q =>
  richCompare_gives (typeIs_int s x t) (typeIs_int s y u) F.slot_int_ge F.entry_int_ge (F.args_int_ge_2 (Value.int x t) (Value.int y u)) (gives_int_ge x y t u) (fun x => nomatch x) q rfl
theorem gt_tup {its its2 : Array Value} {ns ms : List Int} (h1 : s.heap.IsTuple a its) (h2 : s.heap.IsTuple b its2) (i1 : IntsAre its.toList ns) (i2 : IntsAre its2.toList ms) (hu : A.units < cLine) :
    SeqAt.RcOp .Gt A s (.ref a) (.ref b) (HT.lexLt ms ns) := by
  obtain ⟨z1, e1⟩ := its_at i1
  obtain ⟨z2, e2⟩ := its_at i2
  rw [← first_gt ns ms, ← z1, ← z2]
  refine SeqAt.RcOp.tuples_gt h1 h2 hu (fun j g1 g2 => ?_) (fun j g1 g2 _ => ?_)
  · obtain ⟨t, ht⟩ := e1 j g1
    obtain ⟨u, hu⟩ := e2 j g2
    rw [ht, hu]
    exact SeqAt.EqAt.int_int _ _ _ _
  · obtain ⟨t, ht⟩ := e1 j g1
    obtain ⟨u, hu⟩ := e2 j g2
    rw [ht, hu]
    exact rc_gt_int _ _ _ _
theorem ge_tup {its its2 : Array Value} {ns ms : List Int} (h1 : s.heap.IsTuple a its) (h2 : s.heap.IsTuple b its2) (i1 : IntsAre its.toList ns) (i2 : IntsAre its2.toList ms) (hu : A.units < cLine) :
    SeqAt.RcOp .GtE A s (.ref a) (.ref b) (!HT.lexLt ns ms) := by
  obtain ⟨z1, e1⟩ := its_at i1
  obtain ⟨z2, e2⟩ := its_at i2
  rw [← first_ge ns ms, ← z1, ← z2]
  refine SeqAt.RcOp.tuples_ge h1 h2 hu (fun j g1 g2 => ?_) (fun j g1 g2 _ => ?_)
  · obtain ⟨t, ht⟩ := e1 j g1
    obtain ⟨u, hu⟩ := e2 j g2
    rw [ht, hu]
    exact SeqAt.EqAt.int_int _ _ _ _
  · obtain ⟨t, ht⟩ := e1 j g1
    obtain ⟨u, hu⟩ := e2 j g2
    rw [ht, hu]
    exact rc_ge_int _ _ _ _
end

section
variable {prog : Program} {w : World} {A : Around} {E : Value → Shared → Prop} {s : Shared} {a b : Addr} {its its2 : Array Value} {ns ms : List Int} {Q : Value → Shared → Prop}
theorem min_tup2 (hh : A.handled = none) (hu : A.units + 1 < cLine) (h1 : s.heap.IsTuple a its) (h2 : s.heap.IsTuple b its2) (i1 : IntsAre its.toList ns) (i2 : IntsAre its2.toList ms)
    (h : ∀ h' tk, (∀ c o, s.heap.get? c = some o → h'.get? c = some o) → Q (.ref (if HT.lexLt ms ns = true then b else a)) { s with heap := h', toks := tk }) :
    wpAny (model prog w) A (call (.builtin "min") [.ref a, .ref b]) Q E s := by
  have hname : toString "min" ++ toString ".loop" = "min.loop" := by decide
  refine call_function_tree F.kind_min F.plain_min F.entry_min (F.args_min2 _ _) ?_
  refine wpAny_bind (wpAny_of_eq (by rfl) ?_)
  refine wpAny_bind (wpAny_newObj_type (wpAny_bind ?_) (by rw [show (sizeOk (Data.seq #[Value.ref a, Value.ref b])) = (2 ≤ sizeLine) from rfl, sizeLine_eq]; decide))
  have hT : (s.heap.push { cls := Value.type "tuple", data := Data.seq #[Value.ref a, Value.ref b] }).IsTuple s.heap.objs.size #[Value.ref a, Value.ref b] := ⟨_, Heap.get?_push_size s.heap rfl, rfl, 0, rfl⟩
  refine wpAny_pyIter_tuple hT ?_
  have hsz : (s.heap.push { cls := Value.type "tuple", data := Data.seq #[Value.ref a, Value.ref b] }).objs.size = s.heap.objs.size + 1 := Heap.size_push _ _
  refine wpAny_bind (wpAny_newObj_type ?_ (by rw [show (sizeOk (Data.seq #[])) = ((#[] : Array Value).size ≤ sizeLine) from rfl, sizeLine_eq]; decide))
  rw [hname]
  have hhe : A.in1.handled = none := hh
  have W := (Walks.tuple (prog := prog) (w := w) hhe (s.heap.objs.size + 1) s.heap.objs.size (Nat.ne_of_lt (Nat.lt_succ_self _)) #[Value.ref a, Value.ref b]).toS
  have old : ∀ (c : Addr) (o : Obj), s.heap.get? c = some o → c < s.heap.objs.size := fun c o e => Heap.lt_size e
  refine wpAny_pure ⟨plainId_quiet F.plain_min_loop _, ?_⟩
  rw [show (s.heap.push { cls := Value.type "tuple", data := Data.seq #[Value.ref a, Value.ref b] }).objs.size = s.heap.objs.size + 1 from hsz]
  have hs2 : ((s.heap.push { cls := Value.type "tuple", data := Data.seq #[Value.ref a, Value.ref b] }).push { cls := Value.type "tuple_iterator", data := Data.fields #[Value.ref s.heap.objs.size, Value.int 0 0] }).objs.size = s.heap.objs.size + 2 := by rw [Heap.size_push, hsz]
  have g1 := Heap.get?_push_size (s.heap.push { cls := Value.type "tuple", data := Data.seq #[Value.ref a, Value.ref b] }) (o := { cls := Value.type "tuple_iterator", data := Data.fields #[Value.ref s.heap.objs.size, Value.int 0 0] }) rfl
  rw [hsz] at g1
  have g2 := Heap.get?_push_size ((s.heap.push { cls := Value.type "tuple", data := Data.seq #[Value.ref a, Value.ref b] }).push { cls := Value.type "tuple_iterator", data := Data.fields #[Value.ref s.heap.objs.size, Value.int 0 0] }) (o := { cls := Value.type "list", data := Data.seq #[] }) rfl
  refine codeAny_min_loop_firstH W s.heap (fun c o e => ?_) (fun i j => HT.lexLt (if i = 0 then ns else ms) (if j = 0 then ns else ms)) ?_ _ ?_ (fresh_in (h := ((s.heap.push { cls := Value.type "tuple", data := Data.seq #[Value.ref a, Value.ref b] }).push { cls := Value.type "tuple_iterator", data := Data.fields #[Value.ref s.heap.objs.size, Value.int 0 0] })) fun c o e => Heap.get?_push_of_some _ (Heap.get?_push_of_some _ e)) [] Nat.two_pos (fun c o e => Heap.get?_push_of_some _ (Heap.get?_push_of_some _ (Heap.get?_push_of_some _ e))) ?_ g2 ?_
  · intro hm
    have h1 : LT.lt (α := Nat) c s.heap.objs.size := old c o e
    have h2 : Eq (α := Nat) c (s.heap.objs.size + 1) := by simpa using hm
    omega
  · intro i j vi vj s' Q' E' hk p1 p2 q
    have ka : s'.heap.IsTuple a its := by obtain ⟨o, x, y⟩ := h1; exact ⟨o, hk _ _ x, y⟩
    have kb : s'.heap.IsTuple b its2 := by obtain ⟨o, x, y⟩ := h2; exact ⟨o, hk _ _ x, y⟩
    have two : ∀ {i : Nat} {v : Value}, (#[Value.ref a, Value.ref b] : Array Value)[i]? = some v → (i = 0 ∧ v = .ref a) ∨ (i = 1 ∧ v = .ref b) := by
      intro i v p
      match i with
      | 0 => exact .inl ⟨rfl, by simpa using p.symm⟩
      | 1 => exact .inr ⟨rfl, by simpa using p.symm⟩
      | i + 2 => simp at p
    have u1 : A.in1.units < cLine := hu
    rcases two p1 with ⟨rfl, rfl⟩ | ⟨rfl, rfl⟩ <;> rcases two p2 with ⟨rfl, rfl⟩ | ⟨rfl, rfl⟩
    · exact HT.lt_tupInts ka ka i1 i1 u1 q
    · exact HT.lt_tupInts ka kb i1 i2 u1 q
    · exact HT.lt_tupInts kb ka i2 i1 u1 q
    · exact HT.lt_tupInts kb kb i2 i2 u1 q
  · rw [hs2]
    intro hm
    have h2 : Eq (α := Nat) (s.heap.objs.size + 2) (s.heap.objs.size + 1) ∨ Eq (α := Nat) (s.heap.objs.size + 2) s.heap.objs.size := by simpa using hm
    omega
  · refine ⟨⟨_, Heap.get?_push_of_some _ g1, rfl, rfl⟩, ⟨_, Heap.get?_push_of_some _ (Heap.get?_push_of_some _ (Heap.get?_push_size s.heap rfl)), rfl, 0, rfl⟩⟩
  · intro v s' hP hm
    have e : v = .ref (if HT.lexLt ms ns = true then b else a) := by
      have : argBest (fun i j => HT.lexLt (if i = 0 then ns else ms) (if j = 0 then ns else ms)) 1 = if HT.lexLt ms ns = true then 1 else 0 := rfl
      have hP' : (#[Value.ref a, Value.ref b] : Array Value)[argBest (fun i j => HT.lexLt (if i = 0 then ns else ms) (if j = 0 then ns else ms)) 1]? = some v := hP
      rw [this] at hP'
      by_cases c : HT.lexLt ms ns = true
      · rw [if_pos c] at hP' ⊢
        simpa using hP'.symm
      · rw [if_neg c] at hP' ⊢
        simpa using hP'.symm
    subst e
    have hs : s' = { s with heap := s'.heap, toks := s'.toks } := by
      obtain ⟨_, e2, e3, e4, _⟩ := hm
      cases s'
      cases s
      simp only at e2 e3 e4 ⊢
      rw [e2, e3, e4]
    rw [hs]
    refine h s'.heap s'.toks fun c o e => hm.heap c o ?_ (Heap.get?_push_of_some _ (Heap.get?_push_of_some _ (Heap.get?_push_of_some _ e)))
    rw [hs2]
    intro hm
    have h1 : LT.lt (α := Nat) c s.heap.objs.size := old c o e
    have h2 : Eq (α := Nat) c (s.heap.objs.size + 2) ∨ Eq (α := Nat) c (s.heap.objs.size + 1) := by simpa using hm
    omega
end

section
variable {prog : Program} {w : World} {A : Around} {E : Value → Shared → Prop} {s : Shared} {a b : Addr} {its its2 : Array Value} {ns ms : List Int} {Q : Value → Shared → Prop}
theorem max_tup2 (hh : A.handled = none) (hu : A.units + 1 < cLine) (h1 : s.heap.IsTuple a its) (h2 : s.heap.IsTuple b its2) (i1 : IntsAre its.toList ns) (i2 : IntsAre its2.toList ms)
    (h : ∀ h' tk, (∀ c o, s.heap.get? c = some o → h'.get? c = some o) → Q (.ref (if HT.lexLt ns ms = true then b else a)) { s with heap := h', toks := tk }) :
    wpAny (model prog w) A (call (.builtin "max") [.ref a, .ref b]) Q E s := by
  have hname : toString "max" ++ toString ".loop" = "max.loop" := by decide
  refine call_function_tree F.kind_max F.plain_max F.entry_max (F.args_max2 _ _) ?_
  refine wpAny_bind (wpAny_of_eq (by rfl) ?_)
  refine wpAny_bind (wpAny_newObj_type (wpAny_bind ?_) (by rw [show (sizeOk (Data.seq #[Value.ref a, Value.ref b])) = (2 ≤ sizeLine) from rfl, sizeLine_eq]; decide))
  have hT : (s.heap.push { cls := Value.type "tuple", data := Data.seq #[Value.ref a, Value.ref b] }).IsTuple s.heap.objs.size #[Value.ref a, Value.ref b] := ⟨_, Heap.get?_push_size s.heap rfl, rfl, 0, rfl⟩
  refine wpAny_pyIter_tuple hT ?_
  have hsz : (s.heap.push { cls := Value.type "tuple", data := Data.seq #[Value.ref a, Value.ref b] }).objs.size = s.heap.objs.size + 1 := Heap.size_push _ _
  refine wpAny_bind (wpAny_newObj_type ?_ (by rw [show (sizeOk (Data.seq #[])) = ((#[] : Array Value).size ≤ sizeLine) from rfl, sizeLine_eq]; decide))
  rw [hname]
  have hhe : A.in1.handled = none := hh
  have W := (Walks.tuple (prog := prog) (w := w) hhe (s.heap.objs.size + 1) s.heap.objs.size (Nat.ne_of_lt (Nat.lt_succ_self _)) #[Value.ref a, Value.ref b]).toS
  have old : ∀ (c : Addr) (o : Obj), s.heap.get? c = some o → c < s.heap.objs.size := fun c o e => Heap.lt_size e
  refine wpAny_pure ⟨plainId_quiet F.plain_max_loop _, ?_⟩
  rw [show (s.heap.push { cls := Value.type "tuple", data := Data.seq #[Value.ref a, Value.ref b] }).objs.size = s.heap.objs.size + 1 from hsz]
  have hs2 : ((s.heap.push { cls := Value.type "tuple", data := Data.seq #[Value.ref a, Value.ref b] }).push { cls := Value.type "tuple_iterator", data := Data.fields #[Value.ref s.heap.objs.size, Value.int 0 0] }).objs.size = s.heap.objs.size + 2 := by rw [Heap.size_push, hsz]
  have g1 := Heap.get?_push_size (s.heap.push { cls := Value.type "tuple", data := Data.seq #[Value.ref a, Value.ref b] }) (o := { cls := Value.type "tuple_iterator", data := Data.fields #[Value.ref s.heap.objs.size, Value.int 0 0] }) rfl
  rw [hsz] at g1
  have g2 := Heap.get?_push_size ((s.heap.push { cls := Value.type "tuple", data := Data.seq #[Value.ref a, Value.ref b] }).push { cls := Value.type "tuple_iterator", data := Data.fields #[Value.ref s.heap.objs.size, Value.int 0 0] }) (o := { cls := Value.type "list", data := Data.seq #[] }) rfl
  refine codeAny_max_loop_firstH W s.heap (fun c o e => ?_) (fun i j => HT.lexLt (if j = 0 then ns else ms) (if i = 0 then ns else ms)) ?_ _ ?_ (fresh_in (h := ((s.heap.push { cls := Value.type "tuple", data := Data.seq #[Value.ref a, Value.ref b] }).push { cls := Value.type "tuple_iterator", data := Data.fields #[Value.ref s.heap.objs.size, Value.int 0 0] })) fun c o e => Heap.get?_push_of_some _ (Heap.get?_push_of_some _ e)) [] Nat.two_pos (fun c o e => Heap.get?_push_of_some _ (Heap.get?_push_of_some _ (Heap.get?_push_of_some _ e))) ?_ g2 ?_
  · intro hm
    have h1 : LT.lt (α := Nat) c s.heap.objs.size := old c o e
    have h2 : Eq (α := Nat) c (s.heap.objs.size + 1) := by simpa using hm
    omega
  · intro i j vi vj s' Q' E' hk p1 p2 q
    have ka : s'.heap.IsTuple a its := by obtain ⟨o, x, y⟩ := h1; exact ⟨o, hk _ _ x, y⟩
    have kb : s'.heap.IsTuple b its2 := by obtain ⟨o, x, y⟩ := h2; exact ⟨o, hk _ _ x, y⟩
    have two : ∀ {i : Nat} {v : Value}, (#[Value.ref a, Value.ref b] : Array Value)[i]? = some v → (i = 0 ∧ v = .ref a) ∨ (i = 1 ∧ v = .ref b) := by
      intro i v p
      match i with
      | 0 => exact .inl ⟨rfl, by simpa using p.symm⟩
      | 1 => exact .inr ⟨rfl, by simpa using p.symm⟩
      | i + 2 => simp at p
    have u1 : A.in1.units < cLine := hu
    rcases two p1 with ⟨rfl, rfl⟩ | ⟨rfl, rfl⟩ <;> rcases two p2 with ⟨rfl, rfl⟩ | ⟨rfl, rfl⟩
    · exact gt_tup ka ka i1 i1 u1 prog w E' Q' q
    · exact gt_tup ka kb i1 i2 u1 prog w E' Q' q
    · exact gt_tup kb ka i2 i1 u1 prog w E' Q' q
    · exact gt_tup kb kb i2 i2 u1 prog w E' Q' q
  · rw [hs2]
    intro hm
    have h2 : Eq (α := Nat) (s.heap.objs.size + 2) (s.heap.objs.size + 1) ∨ Eq (α := Nat) (s.heap.objs.size + 2) s.heap.objs.size := by simpa using hm
    omega
  · refine ⟨⟨_, Heap.get?_push_of_some _ g1, rfl, rfl⟩, ⟨_, Heap.get?_push_of_some _ (Heap.get?_push_of_some _ (Heap.get?_push_size s.heap rfl)), rfl, 0, rfl⟩⟩
  · intro v s' hP hm
    have e : v = .ref (if HT.lexLt ns ms = true then b else a) := by
      have : argBest (fun i j => HT.lexLt (if j = 0 then ns else ms) (if i = 0 then ns else ms)) 1 = if HT.lexLt ns ms = true then 1 else 0 := rfl
      have hP' : (#[Value.ref a, Value.ref b] : Array Value)[argBest (fun i j => HT.lexLt (if j = 0 then ns else ms) (if i = 0 then ns else ms)) 1]? = some v := hP
      rw [this] at hP'
      by_cases c : HT.lexLt ns ms = true
      · rw [if_pos c] at hP' ⊢
        simpa using hP'.symm
      · rw [if_neg c] at hP' ⊢
        simpa using hP'.symm
    subst e
    have hs : s' = { s with heap := s'.heap, toks := s'.toks } := by
      obtain ⟨_, e2, e3, e4, _⟩ := hm
      cases s'
      cases s
      simp only at e2 e3 e4 ⊢
      rw [e2, e3, e4]
    rw [hs]
    refine h s'.heap s'.toks fun c o e => hm.heap c o ?_ (Heap.get?_push_of_some _ (Heap.get?_push_of_some _ (Heap.get?_push_of_some _ e)))
    rw [hs2]
    intro hm
    have h1 : LT.lt (α := Nat) c s.heap.objs.size := old c o e
    have h2 : Eq (α := Nat) c (s.heap.objs.size + 2) ∨ Eq (α := Nat) c (s.heap.objs.size + 1) := by simpa using hm
    omega
end

def rMin2T (K : PySem.W.Frag) : List V → Hp → VK → Prop := fun xs H Q => ∃ a b ns ms, xs = [.ref a, .ref b] ∧ SqT K H a (ns.map V.int) ∧ SqT K H b (ms.map V.int) ∧ Q (.ref (if HT.lexLt ms ns = true then b else a)) H
def rMax2T (K : PySem.W.Frag) : List V → Hp → VK → Prop := fun xs H Q => ∃ a b ns ms, xs = [.ref a, .ref b] ∧ SqT K H a (ns.map V.int) ∧ SqT K H b (ms.map V.int) ∧ Q (.ref (if HT.lexLt ns ms = true then b else a)) H
def rGeT (K : PySem.W.Frag) : V → V → Hp → VK → Prop := fun x y H Q => ∃ a b ns ms, x = .ref a ∧ y = .ref b ∧ SqT K H a (ns.map V.int) ∧ SqT K H b (ms.map V.int) ∧ Q (.bl (!HT.lexLt ns ms)) H
theorem cr_min2T {X : Cx} (K : PySem.W.Frag) (h : X.K = K) (hc : X.calm = true) (hu : X.A.units + 65 < cLine) : CallR X (.builtin "min") (rMin2T K) := by
  subst h
  rintro pins s σ H xs us Q I r ⟨a, b, ns, ms, rfl, ha, hb, q⟩
  obtain ⟨u, w', rfl, r1, r2⟩ := vals2 r
  cases r1
  cases r2
  obtain ⟨its, e1, p1, _⟩ := Inv.tuple I ha
  obtain ⟨its2, e2, p2, _⟩ := Inv.tuple I hb
  exact min_tup2 (Cx.Ok.hd (Inv.ok I) hc) (Nat.lt_of_le_of_lt (Nat.add_le_add_left (by decide) _) hu) p1 p2 (intsAre_of e1) (intsAre_of e2) fun h' tk k => ⟨.ref _, H, Inv.kept I k, rfl, q⟩
theorem cr_max2T {X : Cx} (K : PySem.W.Frag) (h : X.K = K) (hc : X.calm = true) (hu : X.A.units + 65 < cLine) : CallR X (.builtin "max") (rMax2T K) := by
  subst h
  rintro pins s σ H xs us Q I r ⟨a, b, ns, ms, rfl, ha, hb, q⟩
  obtain ⟨u, w', rfl, r1, r2⟩ := vals2 r
  cases r1
  cases r2
  obtain ⟨its, e1, p1, _⟩ := Inv.tuple I ha
  obtain ⟨its2, e2, p2, _⟩ := Inv.tuple I hb
  exact max_tup2 (Cx.Ok.hd (Inv.ok I) hc) (Nat.lt_of_le_of_lt (Nat.add_le_add_left (by decide) _) hu) p1 p2 (intsAre_of e1) (intsAre_of e2) fun h' tk k => ⟨.ref _, H, Inv.kept I k, rfl, q⟩
theorem op_geT {X : Cx} (K : PySem.W.Frag) (h : X.K = K) (hu : X.A.units + 65 < cLine) : OpR X (compareOp .GtE) (rGeT K) := by
  subst h
  rintro pins s σ H x y v u Q I r1 r2 ⟨a, b, ns, ms, rfl, rfl, ha, hb, q⟩
  cases r1
  cases r2
  obtain ⟨its, e1, p1, _⟩ := Inv.tuple I ha
  obtain ⟨its2, e2, p2, _⟩ := Inv.tuple I hb
  exact ge_tup p1 p2 (intsAre_of e1) (intsAre_of e2) (Nat.lt_of_le_of_lt (Nat.le_add_right _ 65) hu) _ _ _ _ ⟨.bl _, H, I, rfl, q⟩
end Gd

/-! # list(zip(a, b)), a and b lists or tuples -/
namespace Gd
open PySem PySem.Spec PyProof.Rows L2
/-- the items of the list after i turns: new pairs, none below B -/
def PairsAt (h : Heap) (xs ys acc : Array Value) (B i : Nat) : Prop := acc.size = i ∧ acc.toList.Nodup ∧ ∀ (j : Nat) (v : Value), acc[j]? = some v → ∃ (T : Addr) (x y : Value), v = .ref T ∧ xs[j]? = some x ∧ ys[j]? = some y ∧ IsTupOf2 h T x y ∧ B ≤ T
theorem PairsAt.keep {h h' : Heap} {xs ys acc : Array Value} {B i : Nat} (p : PairsAt h xs ys acc B i) (k : ∀ b o, B ≤ b → h.get? b = some o → h'.get? b = some o) : PairsAt h' xs ys acc B i :=
  ⟨p.1, p.2.1, fun j v e => by
    obtain ⟨T, x, y, a, b, c, d, g⟩ := p.2.2 j v e
    exact ⟨T, x, y, a, b, c, k _ _ g d, g⟩⟩
theorem PairsAt.push {h : Heap} {xs ys acc : Array Value} {B i : Nat} (p : PairsAt h xs ys acc B i) {T : Addr} {x y : Value} (hx : xs[i]? = some x) (hy : ys[i]? = some y) (hT : IsTupOf2 h T x y) (hB : B ≤ T) (fr : Value.ref T ∉ acc.toList) : PairsAt h xs ys (acc.push (.ref T)) B (i + 1) := by
  refine ⟨by rw [Array.size_push, p.1], ?_, fun j v e => ?_⟩
  · rw [Array.toList_push]
    exact List.nodup_append.mpr ⟨p.2.1, List.nodup_cons.mpr ⟨List.not_mem_nil, List.nodup_nil⟩, fun u hu v hv e => by rw [List.mem_singleton.mp hv] at e; exact fr (e ▸ hu)⟩
  rw [Array.getElem?_push] at e
  split at e
  · rename_i c
    cases e
    rw [p.1] at c
    subst c
    exact ⟨T, x, y, rfl, hx, hy, hT, hB⟩
  · exact p.2.2 j v e
theorem PairsAt.fresh {h : Heap} {xs ys acc : Array Value} {B i : Nat} (p : PairsAt h xs ys acc B i) : Value.ref h.objs.size ∉ acc.toList := fun m => by
  obtain ⟨j, hj, e⟩ := List.getElem_of_mem m
  obtain ⟨T, x, y, a, _, _, d, _⟩ := p.2.2 j (.ref h.objs.size) (by rw [← Array.getElem?_toList, List.getElem?_eq_getElem hj]; exact congrArg some e)
  cases a
  exact Nat.lt_irrefl _ (Heap.lt_size d)
section
variable {prog : Program} {w : World} {A : Around} {E : Value → Shared → Prop} {s : Shared} {z TI TO i1 i2 l1 l2 : Addr} {xs ys : Array Value} {o1 o2 : Obj} {H1 H2 : Heap → Prop} {St1 St2 : Addr → Nat → Heap → Prop} {R : Result → Shared → Prop}
def ZSt (z TI TO i1 i2 S : Addr) (St1 St2 : Addr → Nat → Heap → Prop) (h : Heap) (i : Nat) : Prop :=
  IsTupOf2 h TI (.ref i1) (.ref i2) ∧ St1 i1 i h ∧ St2 i2 i h ∧ ((IsZip h z TI TO .none ∧ ∃ a b, IsTupOf2 h TO a b) ∨ ∃ T f oT, IsZipHeld h z TI TO T f ∧ h.get? T = some oT ∧ T ≠ z ∧ T ≠ i1 ∧ T ≠ i2 ∧ T ≠ S)
theorem zip_keep (X1 : Dr prog w l1 xs o1 H1 St1) (X2 : Dr prog w l2 ys o2 H2 St2) {S : Addr} (hS : S ∉ ([z, TI, TO, i1, l1, i2, l2] : List Addr)) {h h' : Heap} {i : Nat} (k : ∀ b o, b ≠ S → h.get? b = some o → h'.get? b = some o) (q : ZSt z TI TO i1 i2 S St1 St2 h i) : ZSt z TI TO i1 i2 S St1 St2 h' i := by
  simp only [List.mem_cons, List.not_mem_nil, or_false, not_or] at hS
  obtain ⟨dz, dTI, dTO, di1, dl1, di2, dl2⟩ := hS
  obtain ⟨hTI, h1, h2, hz⟩ := q
  have m1 : ∀ b ∈ ([i1, l1] : List Addr), b ≠ S := fun b hb => by
    simp only [List.mem_cons, List.not_mem_nil, or_false] at hb
    rcases hb with rfl | rfl
    · exact Ne.symm di1
    · exact Ne.symm dl1
  have m2 : ∀ b ∈ ([i2, l2] : List Addr), b ≠ S := fun b hb => by
    simp only [List.mem_cons, List.not_mem_nil, or_false] at hb
    rcases hb with rfl | rfl
    · exact Ne.symm di2
    · exact Ne.symm dl2
  refine ⟨k _ _ (Ne.symm dTI) hTI, X1.fr _ _ _ _ h1 fun b hb o e => k b o (m1 b hb) e, X2.fr _ _ _ _ h2 fun b hb o e => k b o (m2 b hb) e, ?_⟩
  rcases hz with ⟨hz, a, b, hTO⟩ | ⟨T, f, oT, hz, hT, r1, r2, r3, r4⟩
  · exact .inl ⟨k _ _ (Ne.symm dz) hz, a, b, k _ _ (Ne.symm dTO) hTO⟩
  · exact .inr ⟨T, f, oT, k _ _ (Ne.symm dz) hz, k _ _ r4 hT, r1, r2, r3, r4⟩
theorem loop_zip (Sp : ZipSep2 z TI TO i1 i2 [i1, l1] [i2, l2]) (X1 : Dr prog w l1 xs o1 H1 St1) (X2 : Dr prog w l2 ys o2 H2 St2) (n1 : l1 ≠ i1) (n2 : l2 ≠ i2) (hA : A.handled = none) {S B : Addr}
    (hS : S ∉ ([z, TI, TO, i1, l1, i2, l2] : List Addr)) (hB : ∀ b ∈ ([z, TI, TO, i1, l1, i2, l2, S] : List Addr), LT.lt (α := Nat) b B) (hn : min xs.size ys.size ≤ sizeLine) (res : Value) :
    ∀ (k i : Nat) (s : Shared) (acc : Array Value) (c : Nat), min xs.size ys.size - i = k → i ≤ min xs.size ys.size → ZSt z TI TO i1 i2 S St1 St2 s.heap i → s.heap.get? S = some { cls := .type "list", data := .seq acc c } →
      PairsAt s.heap xs ys acc B i → LE.le (α := Nat) B s.heap.objs.size →
      (∀ (h' : Heap) (tk : Nat) (acc' : Array Value) (c' : Nat), (∀ b o, b ∉ ([z, TO, i1, i2, S] : List Addr) → s.heap.get? b = some o → h'.get? b = some o) → h'.get? S = some { cls := .type "list", data := .seq acc' c' } →
        PairsAt h' xs ys acc' B (min xs.size ys.size) → R (.ok (.ret res)) { s with heap := h', toks := tk }) →
      codeAny (model prog w) A (.builtin "list.extend.loop" ⟨[.ref S, .ref z, res], []⟩) R s := by
  have hS' := hS
  simp only [List.mem_cons, List.not_mem_nil, or_false, not_or] at hS'
  obtain ⟨dz, dTI, dTO, di1, dl1, di2, dl2⟩ := hS'
  have lt : ∀ b ∈ ([z, TI, TO, i1, l1, i2, l2, S] : List Addr), ∀ c : Addr, LE.le (α := Nat) B c → c ≠ b := fun b hb c hc e => by
    have := hB b hb
    rw [e] at hc
    exact absurd this (Nat.not_lt.mpr hc)
  have off4 : ∀ b o, (b : Addr) ∉ ([z, TO, i1, i2, S] : List Addr) → b ≠ z ∧ b ≠ TO ∧ b ≠ i1 ∧ b ≠ i2 ∧ b ≠ S := fun b (o : Unit) hb => by
    simp only [List.mem_cons, List.not_mem_nil, or_false, not_or] at hb
    exact ⟨hb.1, hb.2.1, hb.2.2.1, hb.2.2.2.1, hb.2.2.2.2⟩
  intro k
  induction k with
  | zero =>
    intro i s acc c hk hi st hL pa hb hR
    have hin : i = min xs.size ys.size := by omega
    subst hin
    refine codeAny_builtin F.entry_extend_loop ?_
    rw [Around.under_plainId F.plain_extend_loop]
    show wpAny _ _ (pyNext (.ref z) >>= _) _ _ s
    have D1 := X1.dr A.in1.in1 i1 hA n1
    have D2 := X2.dr A.in1.in1 i2 hA n2
    have hend : min xs.size ys.size = xs.size ∨ min xs.size ys.size = ys.size := by omega
    obtain ⟨hTI, h1, h2, hz⟩ := st
    have fin : ∀ (h' : Heap) (tk : Nat), (∀ c o, c ≠ z → c ≠ TO → c ≠ i1 → c ≠ i2 → s.heap.get? c = some o → h'.get? c = some o) → R (.ok (.ret res)) { s with heap := h', toks := tk } := fun h' tk hk' =>
      hR h' tk acc c (fun b o hb' e => by obtain ⟨e1, e2, e3, e4, _⟩ := off4 b () hb'; exact hk' b o e1 e2 e3 e4 e) (hk' _ _ dz dTO di1 di2 hL)
        (pa.keep fun b o hb' e => hk' b o (lt z (by simp) b hb') (lt TO (by simp) b hb') (lt i1 (by simp) b hb') (lt i2 (by simp) b hb') e)
    rcases hz with ⟨hz, a, b, hTO⟩ | ⟨T, f, oT, hz, hT, r1, r2, r3, r4⟩
    · exact wpAny_bind (wpAny_pyNext_zipD2_end Sp D1 D2 hz hTI hTO h1 h2 (Nat.min_le_left ..) (Nat.min_le_right ..) hend fun h' tk hk' => wpAny_pure (fin h' tk hk'))
    · exact wpAny_bind (pyNext_zipH_end Sp D1 D2 hz hT hTI h1 h2 (Nat.min_le_left ..) (Nat.min_le_right ..) hend fun h' tk hk' => wpAny_pure (fin h' tk fun c o e1 _ e3 e4 => hk' c o e1 e3 e4))
  | succ k ih =>
    intro i s acc c hk hi st hL pa hb hR
    have hlt : i < min xs.size ys.size := by omega
    have hix : i < xs.size := Nat.lt_of_lt_of_le hlt (Nat.min_le_left ..)
    have hiy : i < ys.size := Nat.lt_of_lt_of_le hlt (Nat.min_le_right ..)
    refine codeAny_builtin F.entry_extend_loop ?_
    rw [Around.under_plainId F.plain_extend_loop]
    show wpAny _ _ (pyNext (.ref z) >>= _) _ _ s
    have D1 := X1.dr A.in1.in1 i1 hA n1
    have D2 := X2.dr A.in1.in1 i2 hA n2
    obtain ⟨hTI, h1, h2, hz⟩ := st
    have step : ∀ (h' : Heap) (tk : Nat) (x1 x2 : Value), xs[i]? = some x1 → ys[i]? = some x2 → ZSt z TI TO i1 i2 S St1 St2 h' (i + 1) → IsTupOf2 h' s.heap.objs.size x1 x2 → h'.objs.size = s.heap.objs.size + 1 →
        (∀ c o, c ≠ z → c ≠ TO → c ≠ i1 → c ≠ i2 → s.heap.get? c = some o → h'.get? c = some o) →
        wpAny (model prog w) A.in1 (do
          Builtin.List.listUpdate (.ref S) fun x => x.push (.ref s.heap.objs.size)
          again (.builtin "list.extend.loop" ⟨[.ref S, .ref z, res], []⟩)) (fun fin s' => match fin with
            | .done f => R (.ok f) s'
            | .again c' => c'.quiet = true ∧ codeAny (model prog w) A c' R s') (fun e s' => R (.error e) s') { s with heap := h', toks := tk } := fun h' tk x1 x2 y1 y2 st' tT sz hk' => by
      have hL' : h'.get? S = some { cls := .type "list", data := .seq acc c } := hk' _ _ dz dTO di1 di2 hL
      have oth : ∀ b o, b ≠ S → h'.get? b = some o → (h'.update S (Obj.mapSeq fun x => x.push (.ref s.heap.objs.size))).get? b = some o := fun b o hb' e => Eq.trans (Heap.get?_update_other h' _ (Ne.symm hb')) e
      refine wpAny_bind (wpAny_updateSeq hL' rfl (wpAny_pure ⟨plainId_quiet F.plain_extend_loop _, ih (i + 1) { s with heap := h'.update S (Obj.mapSeq fun x => x.push (.ref s.heap.objs.size)), toks := tk } (acc.push (.ref s.heap.objs.size)) _ (by omega) hlt ?_ (Heap.get?_update_self _ hL' rfl) ?_ ?_ ?_⟩) ?_ ?_)
      · exact zip_keep X1 X2 hS oth st'
      · refine PairsAt.push ((pa.keep fun b o hb' e => hk' b o (lt z (by simp) b hb') (lt TO (by simp) b hb') (lt i1 (by simp) b hb') (lt i2 (by simp) b hb') e).keep fun b o hb' e => oth b o (lt S (by simp) b hb') e) y1 y2 (oth _ _ (lt S (by simp) _ hb) tT) hb pa.fresh
      · show LE.le (α := Nat) B (h'.update S _).objs.size
        rw [Heap.size_update, sz]
        exact Nat.le_succ_of_le hb
      · intro h'' tk' acc' c' k2 hL2 pa2
        exact hR h'' tk' acc' c' (fun b o hb' e => by
          obtain ⟨e1, e2, e3, e4, e5⟩ := off4 b () hb'
          exact k2 b o hb' (oth b o e5 (hk' b o e1 e2 e3 e4 e))) hL2 pa2
      · rw [pa.1]; omega
      · rw [Array.size_push, pa.1]; omega
    obtain ⟨u1, q1⟩ := X1.th _ _ _ h1 i1 (by simp)
    obtain ⟨u2, q2⟩ := X2.th _ _ _ h2 i2 (by simp)
    have k1 : s.heap.objs.size ≠ i1 := Nat.ne_of_gt (Heap.lt_size q1)
    have k2 : s.heap.objs.size ≠ i2 := Nat.ne_of_gt (Heap.lt_size q2)
    have kS : s.heap.objs.size ≠ S := Nat.ne_of_gt (Heap.lt_size hL)
    rcases hz with ⟨hz, a, b, hTO⟩ | ⟨T, f, oT, hz, hT, r1, r2, r3, r4⟩
    · refine wpAny_bind (wpAny_pyNext_zipD2_item Sp D1 D2 hz hTI hTO h1 h2 hix hiy fun x1 x2 h' tk y1 y2 b1 b2 d1 d2 b5 b6 hk' => ?_)
      exact step h' tk x1 x2 y1 y2 ⟨hk' _ _ Sp.TIz Sp.TITO Sp.TIi1 Sp.TIi2 hTI, d1, d2, .inr ⟨s.heap.objs.size, false, _, b1, b5, Nat.ne_of_gt (Heap.lt_size hz), k1, k2, kS⟩⟩ b5 b6 hk'
    · refine wpAny_bind (pyNext_zipH Sp D1 D2 hz hT hTI h1 h2 hix hiy fun x1 x2 h' tk y1 y2 b1 d1 d2 b5 b6 hk' => ?_)
      exact step h' tk x1 x2 y1 y2 ⟨hk' _ _ Sp.TIz Sp.TIi1 Sp.TIi2 hTI, d1, d2, .inr ⟨T, true, oT, b1, hk' _ _ r1 r2 r3 hT, r1, r2, r3, r4⟩⟩ b5 b6 fun c o e1 _ e3 e4 => hk' c o e1 e3 e4
theorem zip_no_len : typeLookup (.type "zip") (Str.ofString "__len__") = pure none := by with_unfolding_all rfl
theorem zip_no_hint : typeLookup (.type "zip") (Str.ofString "__length_hint__") = pure none := by with_unfolding_all rfl
theorem zst_zip {S : Addr} {h : Heap} {i : Nat} (q : ZSt z TI TO i1 i2 S St1 St2 h i) : ∃ o, h.get? z = some o ∧ o.cls = .type "zip" := by
  obtain ⟨_, _, _, ⟨hz, _⟩ | ⟨T, f, oT, hz, _⟩⟩ := q
  · exact ⟨_, hz, rfl⟩
  · exact ⟨_, hz, rfl⟩
theorem extend_zip (Sp : ZipSep2 z TI TO i1 i2 [i1, l1] [i2, l2]) (X1 : Dr prog w l1 xs o1 H1 St1) (X2 : Dr prog w l2 ys o2 H2 St2) (n1 : l1 ≠ i1) (n2 : l2 ≠ i2) (hA : A.handled = none) {S B : Addr}
    (hS : S ∉ ([z, TI, TO, i1, l1, i2, l2] : List Addr)) (hB : ∀ b ∈ ([z, TI, TO, i1, l1, i2, l2, S] : List Addr), LT.lt (α := Nat) b B) (hn : min xs.size ys.size ≤ sizeLine) (res : Value) (c : Nat)
    (hz : IsZip s.heap z TI TO .none) (st : ZSt z TI TO i1 i2 S St1 St2 s.heap 0) (hL : s.heap.get? S = some { cls := .type "list", data := .seq #[] c }) (hb : LE.le (α := Nat) B s.heap.objs.size)
    (hR : ∀ (h' : Heap) (tk : Nat) (acc' : Array Value) (c' : Nat), (∀ b o, b ∉ ([z, TO, i1, i2, S] : List Addr) → s.heap.get? b = some o → h'.get? b = some o) → h'.get? S = some { cls := .type "list", data := .seq acc' c' } →
        PairsAt h' xs ys acc' B (min xs.size ys.size) → R (.ok (.ret res)) { s with heap := h', toks := tk }) :
    wpAny (model prog w) A.in1 (Builtin.List.listExtendWith (.ref S) (.ref z) res) (fun fin s' => match fin with
            | .done f => R (.ok f) s'
            | .again c' => c'.quiet = true ∧ codeAny (model prog w) A c' R s') (fun e s' => R (.error e) s') s := by
  have hT : s.TypeIs (.ref z) "zip" := ⟨_, hz, rfl⟩
  have hSz : ¬ S = z := fun e => hS (by rw [e]; simp)
  have e1 : Builtin.List.listSameRef (.ref S) (.ref z) = false := by
    show (S == z) = false
    rw [beq_eq_false_iff_ne]
    exact hSz
  unfold Builtin.List.listExtendWith
  refine wpAny_bind (wpAny_typeOf hT ?_)
  rw [e1]
  rw [if_neg (by decide)]
  refine wpAny_bind (wpAny_pyIter_zip hz ?_)
  refine wpAny_bind (wpAny_holding ?_)
  unfold Builtin.List.listLengthHint
  refine wpAny_bind (wpAny_specialOf hT zip_no_len ?_)
  refine wpAny_bind (wpAny_specialOf hT zip_no_hint ?_)
  refine wpAny_pure ?_
  rw [if_pos (by rfl)]
  refine wpAny_bind (wpAny_rule ?_)
  have h2 : (s.heap.update S (Obj.mapSeq fun x => x.push .none)).get? S = _ := Heap.get?_update_self (Obj.mapSeq fun x => x.push .none) hL rfl
  have h3 : ((s.heap.update S (Obj.mapSeq fun x => x.push .none)).update S (Obj.mapSeq fun x => x.pop)).get? S = _ := Heap.get?_update_self (Obj.mapSeq fun x => x.pop) h2 rfl
  have oth : ∀ b o, b ≠ S → s.heap.get? b = some o → ((s.heap.update S (Obj.mapSeq fun x => x.push .none)).update S (Obj.mapSeq fun x => x.pop)).get? b = some o := fun b o hb' e =>
    Eq.trans (Heap.get?_update_other _ _ (Ne.symm hb')) (Eq.trans (Heap.get?_update_other s.heap _ (Ne.symm hb')) e)
  refine wpAny_bind (show wpAny _ _ (Builtin.List.listTouch (.ref S)) _ _ s from wpAny_bind (wpAny_updateSeq hL rfl (wpAny_updateSeq h2 rfl (wpAny_pure ⟨plainId_quiet F.plain_extend_loop _,
    loop_zip Sp X1 X2 n1 n2 hA hS hB hn res _ 0 { s with heap := (s.heap.update S (Obj.mapSeq fun x => x.push .none)).update S (Obj.mapSeq fun x => x.pop) } #[] _ rfl (Nat.zero_le _) (zip_keep X1 X2 hS oth st) h3 ⟨rfl, List.nodup_nil, fun j v e => by simp at e⟩ ?_ ?_⟩) ?_ ?_) ?_ ?_))
  · show LE.le (α := Nat) B (Heap.update _ S _).objs.size
    rw [Heap.size_update, Heap.size_update]
    exact hb
  · intro h' tk acc' c' k hL' pa
    exact hR h' tk acc' c' (fun b o hb' e => k b o hb' (oth b o (fun z' => hb' (by rw [z']; simp)) e)) hL' pa
  all_goals first | (show _ ≤ sizeLine; rw [sizeLine_eq]; decide) | (show _ ≤ sizeLine + 1; rw [sizeLine_eq]; decide)
theorem call_list_zip {Q : Value → Shared → Prop} (Sp : ZipSep2 z TI TO i1 i2 [i1, l1] [i2, l2]) (X1 : Dr prog w l1 xs o1 H1 St1) (X2 : Dr prog w l2 ys o2 H2 St2) (n1 : l1 ≠ i1) (n2 : l2 ≠ i2) (hA : A.handled = none)
    (hB : ∀ b ∈ ([z, TI, TO, i1, l1, i2, l2] : List Addr), LT.lt (α := Nat) b s.heap.objs.size) (hn : min xs.size ys.size ≤ sizeLine)
    (hz : IsZip s.heap z TI TO .none) (hTI : IsTupOf2 s.heap TI (.ref i1) (.ref i2)) (hTO : ∃ a b, IsTupOf2 s.heap TO a b) (h1 : St1 i1 0 s.heap) (h2 : St2 i2 0 s.heap)
    (hQ : ∀ (h' : Heap) (tk : Nat) (acc' : Array Value) (c' : Nat), (∀ b o, b ∉ ([z, TO, i1, i2] : List Addr) → s.heap.get? b = some o → h'.get? b = some o) → h'.get? s.heap.objs.size = some { cls := .type "list", data := .seq acc' c' } →
        PairsAt h' xs ys acc' (s.heap.objs.size + 1) (min xs.size ys.size) → Q (.ref s.heap.objs.size) { s with heap := h', toks := tk }) :
    wpAny (model prog w) A (call (.type "list") [.ref z]) Q E s := by
  have hS : s.heap.objs.size ∉ ([z, TI, TO, i1, l1, i2, l2] : List Addr) := fun m => Nat.lt_irrefl _ (hB _ m)
  refine callType_codes (Q₁ := fun obj s₁ => obj = .ref s.heap.objs.size ∧ s₁ = { s with heap := s.heap.push { cls := .type "list", data := .seq #[] } }) F.called_list (F.typeCall_list_1 (.ref z)) F.entry_list_init (code_list_new (.ref z) ⟨rfl, rfl⟩) fun obj s₁ h₁ => ?_
  obtain ⟨rfl, rfl⟩ := h₁
  have hL : (s.heap.push { cls := .type "list", data := .seq #[] }).get? s.heap.objs.size = some { cls := .type "list", data := .seq #[] } := Heap.get?_push_size s.heap rfl
  have up : ∀ b o, s.heap.get? b = some o → (s.heap.push { cls := .type "list", data := .seq #[] }).get? b = some o := fun b o e => Heap.get?_push_of_some _ e
  refine ⟨⟨_, hL, rfl⟩, F.args_list_init_2 _ _, ?_⟩
  have h3 : ((s.heap.push { cls := .type "list", data := .seq #[] }).update s.heap.objs.size (Obj.mapSeq fun _ => #[])).get? s.heap.objs.size = _ := Heap.get?_update_self (Obj.mapSeq fun _ => #[]) hL rfl
  have oth : ∀ b o, b ≠ s.heap.objs.size → (s.heap.push { cls := .type "list", data := .seq #[] }).get? b = some o → ((s.heap.push { cls := .type "list", data := .seq #[] }).update s.heap.objs.size (Obj.mapSeq fun _ => #[])).get? b = some o :=
    fun b o hb e => Eq.trans (Heap.get?_update_other _ _ (Ne.symm hb)) e
  have lt' : ∀ {b : Addr} {o : Obj}, s.heap.get? b = some o → b ≠ s.heap.objs.size := fun e => Nat.ne_of_lt (Heap.lt_size e)
  have up2 : ∀ b o, s.heap.get? b = some o → ((s.heap.push { cls := .type "list", data := .seq #[] }).update s.heap.objs.size (Obj.mapSeq fun _ => #[])).get? b = some o := fun b o e => oth b o (lt' e) (up b o e)
  obtain ⟨a, b, hTO⟩ := hTO
  refine wpAny_bind (show wpAny _ _ (Builtin.List.listItems (.ref s.heap.objs.size)) _ _ _ from wpAny_bind (wpAny_seqItems hL rfl (wpAny_pure (wpAny_bind (show wpAny _ _ (Builtin.List.listUpdate (.ref s.heap.objs.size) fun _ => #[]) _ _ _ from wpAny_updateSeq hL rfl (wpAny_bind (wpAny_letGo ?_)) ?_ ?_)))))
  · refine extend_zip (A := A.in1) Sp X1 X2 n1 n2 hA (S := s.heap.objs.size) (B := s.heap.objs.size + 1) hS ?_ hn .none _ (up2 _ _ hz) ⟨up2 _ _ hTI, X1.fr _ _ _ _ h1 fun b _ o e => up2 b o e, X2.fr _ _ _ _ h2 fun b _ o e => up2 b o e, .inl ⟨up2 _ _ hz, a, b, up2 _ _ hTO⟩⟩ h3 ?_ ?_
    · intro b hb
      simp only [List.mem_cons, List.not_mem_nil, or_false] at hb
      rcases hb with hb | hb | hb | hb | hb | hb | hb | hb
      · exact Nat.lt_succ_of_lt (hB b (by simp [hb]))
      · exact Nat.lt_succ_of_lt (hB b (by simp [hb]))
      · exact Nat.lt_succ_of_lt (hB b (by simp [hb]))
      · exact Nat.lt_succ_of_lt (hB b (by simp [hb]))
      · exact Nat.lt_succ_of_lt (hB b (by simp [hb]))
      · exact Nat.lt_succ_of_lt (hB b (by simp [hb]))
      · exact Nat.lt_succ_of_lt (hB b (by simp [hb]))
      · rw [hb]; exact Nat.lt_succ_self _
    · show LE.le (α := Nat) _ (Heap.update _ _ _).objs.size
      rw [Heap.size_update, Heap.size_push]
      exact Nat.le_refl _
    · intro h' tk acc' c' k hL' pa
      refine ⟨rfl, hQ h' tk acc' c' (fun b o hb e => k b o (fun m => ?_) (up2 b o e)) hL' pa⟩
      simp only [List.mem_cons, List.not_mem_nil, or_false] at m hb
      rcases m with m | m | m | m | m
      · exact hb (.inl m)
      · exact hb (.inr (.inl m))
      · exact hb (.inr (.inr (.inl m)))
      · exact hb (.inr (.inr (.inr m)))
      · exact lt' e m
  all_goals first | (show _ ≤ sizeLine; rw [sizeLine_eq]; decide) | (show _ ≤ sizeLine + 1; rw [sizeLine_eq]; decide)
end
/-- a list of new pairs -/
structure ZipNew (H1 : Hp) (l : Addr) (ps : List Addr) (xs ys : List V) (H2 : Hp) : Prop where
  len : ps.length = min xs.length ys.length
  nd : ps.Nodup
  off : l ∉ ps
  l0 : H1 l = none
  p0 : ∀ p ∈ ps, H1 p = none
  at_l : H2 l = some (.lst (ps.map .ref))
  at_p : ∀ (j : Nat) (p : Addr) (x y : V), ps[j]? = some p → xs[j]? = some x → ys[j]? = some y → H2 p = some (.tup [x, y])
  rest : ∀ b, b ≠ l → b ∉ ps → H2 b = H1 b
theorem ZipNew.same {H1 H2 : Hp} {l : Addr} {ps : List Addr} {xs ys : List V} (z : ZipNew H1 l ps xs ys H2) : Same H1 H2 := fun b o e => by
  rw [z.rest b (fun q => by rw [q, z.l0] at e; cases e) fun q => by rw [z.p0 b q] at e; cases e]
  exact e
def tListZip (K : PySem.W.Frag) (t : TA) : TE := fun σ H Q => t σ H fun vs H1 => ∃ (a b : Addr) (xs ys : List V), vs = [.ref a, .ref b] ∧ SqA K H1 a xs ∧ SqA K H1 b ys ∧ ∀ (l : Addr) (ps : List Addr) (H2 : Hp), ZipNew H1 l ps xs ys H2 → Q (.ref l) H2
theorem inv_lays {X : Cx} {pins : List (Addr × Obj)} {σ : L2.St} {H H' : Hp} {s : Shared} {h' : Heap} {t' : Nat} (I : Inv X pins σ H s) (k : ∀ b u, s.heap.get? b = some u → h'.get? b = some u) (keep : ∀ b o, H b = some o → H' b = some o)
    (new : ∀ b o, H' b = some o → H b = some o ∨ (LE.le (α := Nat) s.heap.objs.size b ∧ ObjOk X.prog X.w H' h' b o)) : Inv X pins σ H' { s with heap := h', toks := t' } :=
  I.un {
    keep := fun b u q _ _ _ => k b u q
    slot := fun b u q _ _ _ => ⟨u.slots, k b u q⟩
    free := fun b u q n _ => by
      cases e : H' b with
      | none => rfl
      | some o =>
        rcases new b o e with e | ⟨e, _⟩
        · rw [n] at e; cases e
        · exact absurd (Heap.lt_size q) (Nat.not_lt.mpr e)
    there := fun b u q _ => ⟨u, k b u q⟩
    tups := fun b xs q => keep _ _ q
    frzs := fun b u xs q => keep _ _ q
    tbls := fun b ps q => ⟨#[], by rw [Array.append_empty]; exact keep _ _ q⟩ } fun b o e => by
    rcases new b o e with e | ⟨_, e⟩
    · exact ObjOk.stay (I.hok b o e) (fun c v _ q => k c v q) (fun c q => keep _ _ q) fun c xs q => keep _ _ q
    · exact e
theorem refs_of : ∀ {l : List Value}, (∀ v ∈ l, ∃ T : Addr, v = .ref T) → ∃ ps : List Addr, l = ps.map Value.ref
  | [], _ => ⟨[], rfl⟩
  | v :: r, h => by
    obtain ⟨T, rfl⟩ := h v List.mem_cons_self
    obtain ⟨ps, rfl⟩ := refs_of fun u hu => h u (List.mem_cons_of_mem _ hu)
    exact ⟨T :: ps, rfl⟩
theorem vals_refs : ∀ ps : List Addr, Vals (ps.map V.ref) (ps.map Value.ref)
  | [] => .nil
  | p :: r => .cons rfl (vals_refs r)
theorem vals_at : ∀ {xs : List V} {its : List Value} {j : Nat} {v : Value}, Vals xs its → its[j]? = some v → ∃ u, xs[j]? = some u ∧ L2.RelV u v
  | _, _, _, _, .nil, e => by simp at e
  | _, _, 0, _, .cons a _, e => by simp at e; subst e; exact ⟨_, rfl, a⟩
  | _, _, j + 1, v, .cons _ b, e => by
    obtain ⟨u, h1, h2⟩ := vals_at (j := j) (v := v) b (by simpa using e)
    exact ⟨u, by simpa using h1, h2⟩
section
variable {X : Cx}
theorem pe_listZip {e1 e2 : Expr} {t : TA} {p p2 q pos : Pos} (hg : Gl X "list") (hm : X.mg "list" = none) (hg2 : Gl X "zip") (hm2 : X.mg "zip" = none) (ha : PA X [e1, e2] t) (hc : X.calm = true := by rfl)
    (na : starEach [Expr.Call (.Name "zip" p2) [e1, e2] [] q] X.env = (false, eval (Expr.Call (.Name "zip" p2) [e1, e2] [] q) X.env) :: starEach [] X.env := by rfl)
    (hs : starEach [e1, e2] X.env = (false, eval e1 X.env) :: starEach [e2] X.env := by rfl) (hpl : (backTo q (starEach [e2] X.env)).any (·.1) = false := by rfl) :
    PE X (.Call (.Name "list" p) [.Call (.Name "zip" p2) [e1, e2] [] q] [] pos) (tListZip X.K t) := by
  refine ⟨fun pins s σ H Q I h => ?_⟩
  refine Call_ (ld_blt I hg hm (show bootBuiltins "list" = some (.type "list") by with_unfolding_all rfl) ?_)
  refine callWith_type1 (args_cons ?_ na) na rfl
  refine Call_ (ld_blt I hg2 hm2 boot_zip (callWith_type1 (thn (ha.run q pins s σ H _ I h) fun us s1 hh => ?_) hs hpl))
  obtain ⟨vs, H1, I1, r1, a, b, xs, ys, rfl, hqx, hqy, q1⟩ := hh
  obtain ⟨u, v, rfl, r, r'⟩ := vals2 r1
  cases r
  cases r'
  obtain ⟨its, o1, G1, St1, rv, hz1, X1, g1, la⟩ := dr_of I1 hqx
  obtain ⟨jts, o2, G2, St2, rv2, hz2, X2, g2, lb⟩ := dr_of I1 hqy
  refine zip_begins2 X1.beg X2.beg g1 g2 fun h' hz hT hO c1 c2 hsz hk => ?_
  refine args_nil ?_
  have S : ZipSep2 (s1.heap.objs.size + 4) (s1.heap.objs.size + 2) (s1.heap.objs.size + 3) s1.heap.objs.size (s1.heap.objs.size + 1) [s1.heap.objs.size, a] [s1.heap.objs.size + 1, b] := zip_sep2 (fp1 := [a]) (fp2 := [b]) (fun c hc => by rw [List.mem_singleton.mp hc]; exact la) (fun c hc => by rw [List.mem_singleton.mp hc]; exact lb)
  have hh : X.A.handled = none := I1.ok.hd hc
  have len1 : its.toArray.size = xs.length := by rw [List.size_toArray, ← rv.length]
  have len2 : jts.toArray.size = ys.length := by rw [List.size_toArray, ← rv2.length]
  refine call_list_zip S X1 X2 (Nat.ne_of_lt la) (Nat.ne_of_lt (Nat.lt_succ_of_lt lb)) hh ?_ (by rw [len1, len2]; omega) hz hT ⟨_, _, hO⟩ (X1.st0 _ _ c1 (X1.beg.keeps _ _ g1 hk)) (X2.st0 _ _ c2 (X2.beg.keeps _ _ g2 hk)) ?_
  · show ∀ b' ∈ _, LT.lt (α := Nat) b' h'.objs.size
    rw [hsz]
    intro b' hb'
    simp only [List.mem_cons, List.not_mem_nil, or_false] at hb'
    rcases hb' with e | e | e | e | e | e | e <;> rw [e]
    · exact Nat.lt_succ_self _
    · show LT.lt (α := Nat) (s1.heap.objs.size + 2) _; omega
    · show LT.lt (α := Nat) (s1.heap.objs.size + 3) _; omega
    · show LT.lt (α := Nat) (s1.heap.objs.size) _; omega
    · exact Nat.lt_of_lt_of_le la (Nat.le_add_right _ _)
    · show LT.lt (α := Nat) (s1.heap.objs.size + 1) _; omega
    · exact Nat.lt_of_lt_of_le lb (Nat.le_add_right _ _)
  intro h'' tk acc' c' hk2 hL pa
  rw [len1, len2] at pa
  obtain ⟨pa1, pa2, pa3⟩ := pa
  obtain ⟨ps, hps⟩ := refs_of (l := acc'.toList) fun v hv => by
    obtain ⟨j, hj, e⟩ := List.getElem_of_mem hv
    obtain ⟨T, _, _, e2, _⟩ := pa3 j v (by rw [← Array.getElem?_toList, List.getElem?_eq_getElem hj]; exact congrArg some e)
    exact ⟨T, e2⟩
  have plen : ps.length = min xs.length ys.length := by
    rw [← pa1, ← Array.length_toList, hps, List.length_map]
  have pnd : ps.Nodup := by
    rw [hps] at pa2
    exact List.Pairwise.of_map Value.ref (fun a b h e => h (congrArg Value.ref e)) pa2
  have pat : ∀ (j : Nat) (p : Addr), ps[j]? = some p → ∃ x y, its[j]? = some x ∧ jts[j]? = some y ∧ IsTupOf2 h'' p x y ∧ LE.le (α := Nat) (h'.objs.size + 1) p := fun j p e => by
    obtain ⟨T, x, y, e1, e2, e3, e4, e5⟩ := pa3 j (.ref p) (by rw [← Array.getElem?_toList, hps, List.getElem?_map, e]; rfl)
    cases e1
    exact ⟨x, y, by simpa using e2, by simpa using e3, e4, e5⟩
  have big : LE.le (α := Nat) s1.heap.objs.size h'.objs.size := by rw [hsz]; exact Nat.le_add_right _ _
  have pbig : ∀ p ∈ ps, LE.le (α := Nat) (h'.objs.size + 1) p := fun p hp => by
    obtain ⟨j, hj, e⟩ := List.getElem_of_mem hp
    obtain ⟨_, _, _, _, _, g⟩ := pat j p (by rw [List.getElem?_eq_getElem hj]; exact congrArg some e)
    exact g
  have keep : ∀ c o, s1.heap.get? c = some o → h''.get? c = some o := fun c o e => by
    have hlt := Heap.lt_size e
    refine hk2 c o (fun hm => ?_) (hk _ _ e)
    simp only [List.mem_cons, List.not_mem_nil, or_false] at hm
    rcases hm with z | z | z | z
    · exact absurd hlt (by rw [z]; exact Nat.not_lt.mpr (Nat.le_add_right _ _))
    · exact absurd hlt (by rw [z]; exact Nat.not_lt.mpr (Nat.le_add_right _ _))
    · exact absurd hlt (by rw [z]; exact Nat.lt_irrefl _)
    · exact absurd hlt (by rw [z]; exact Nat.not_lt.mpr (Nat.le_add_right _ _))
  have l0 : H1 h'.objs.size = none := I1.hok.fresh big
  have p0 : ∀ p ∈ ps, H1 p = none := fun p hp => I1.hok.fresh (Nat.le_trans big (Nat.le_of_succ_le (pbig p hp)))
  have off : h'.objs.size ∉ ps := fun hm => absurd (pbig _ hm) (Nat.not_succ_le_self _)
  let H2 : Hp := fun b => if b = h'.objs.size then some (.lst (ps.map .ref)) else if b ∈ ps then some (.tup [xs.getD (ps.idxOf b) .non, ys.getD (ps.idxOf b) .non]) else H1 b
  have Z : ZipNew H1 h'.objs.size ps xs ys H2 := {
    len := plen, nd := pnd, off := off, l0 := l0, p0 := p0
    at_l := if_pos rfl
    at_p := fun j p x y e ex ey => by
      have hp : p ∈ ps := List.mem_of_getElem? e
      have hi : ps.idxOf p = j := by
        obtain ⟨hj, e'⟩ := List.getElem?_eq_some_iff.mp e
        rw [← e']
        exact pnd.idxOf_getElem j hj
      show (if p = h'.objs.size then _ else if p ∈ ps then some (HO.tup [xs.getD (ps.idxOf p) .non, ys.getD (ps.idxOf p) .non]) else H1 p) = _
      rw [if_neg (fun z : p = h'.objs.size => off (by rw [← z]; exact hp)), if_pos hp, hi, List.getD_eq_getElem?_getD, List.getD_eq_getElem?_getD, ex, ey]
      rfl
    rest := fun b h1 h2 => by
      show (if b = h'.objs.size then _ else if b ∈ ps then _ else H1 b) = _
      rw [if_neg h1, if_neg h2] }
  refine ⟨.ref h'.objs.size, H2, inv_lays (s := s1) (t' := tk) I1 keep Z.same fun b o e => ?_, rfl, q1 _ ps H2 Z⟩
  by_cases cl : b = h'.objs.size
  · rw [cl, Z.at_l] at e
    cases e
    refine .inr ⟨by rw [cl]; exact big, ?_⟩
    rw [cl]
    exact ⟨by rw [List.length_map, plen]; omega, ps.map Value.ref, c', vals_refs ps, by rw [← hps, Array.toArray_toList]; exact hL⟩
  by_cases cp : b ∈ ps
  · obtain ⟨j, hj, ej⟩ := List.getElem_of_mem cp
    have ej' : ps[j]? = some b := by rw [List.getElem?_eq_getElem hj]; exact congrArg some ej
    obtain ⟨x, y, e2, e3, e4, e5⟩ := pat j b ej'
    obtain ⟨u, u1, u2⟩ := vals_at rv e2
    obtain ⟨v, v1, v2⟩ := vals_at rv2 e3
    rw [Z.at_p j b u v ej' u1 v1] at e
    cases e
    exact .inr ⟨Nat.le_trans big (Nat.le_of_succ_le e5), by show 2 ≤ sizeLine; rw [sizeLine_eq]; decide, [x, y], .cons u2 (.cons v2 .nil), ⟨_, e4, rfl, _, rfl⟩⟩
  · rw [Z.rest b cl cp] at e
    exact .inl e
end
end Gd

/-! # sorted(set(xs)), xs a list of numbers -/
namespace Gd
open PySem PySem.Spec PyProof.Rows L2 RZ
section
variable {P : Program} {w : World} {A : Around} {E : Value → Shared → Prop} {s : Shared}
/-- the object that a set begins with -/
abbrev nuS (w : World) : Obj :=
  { cls := .type "set", dict := none
    data := .set #[] 0 (.fresh 0 0 (!w.params.followText "set-order")) }
theorem call_setL {l : Addr} {xs : Array Value} (ns : List Int) {Q : Value → Shared → Prop} (hn : A.handled = none) (hL : s.heap.IsList l xs)
    (ha : IntsAre xs.toList ns) (hlen : ns.length + 1 < scanBound)
    (q : ∀ (h' : Heap) (tk c : Nat), SetR w h' s.heap.objs.size (fun j => decide (j ∈ ns)) c → c ≤ ns.length →
      (∀ b o, s.heap.get? b = some o → h'.get? b = some o) → Q (.ref s.heap.objs.size) { s with heap := h', toks := tk }) :
    wpAny (model P w) A (call (.type "set") [.ref l]) Q E s := by
  have hsize : xs.size = ns.length := by rw [← IntsAre.length ha, Array.length_toList]
  obtain ⟨cl, tl, hm0⟩ := F.called_set.mro
  have f1 := F.called_set.made
  have f2 := F.called_set.sub
  have f3 := F.called_set.notType
  have f4 := F.called_set.canCreate
  have f5 := F.typeCall_set_1 (.ref l)
  refine wpAny_call (codeAny_of_tree ?_)
  show wpAny _ _ (callAny (.type "set") _) _ _ _
  refine wpAny_pure ⟨Code.quiet_builtin _ (by decide +kernel), codeAny_builtin F.entry_type_call ?_⟩
  rw [Around.under_plain (weight_type_call_type "set" [.ref l] []) rfl]
  repeat (any_goals (first | assumption | wp_step))
  have big := code_set_led1 (P := P) (w := w) (A := A.in1) (s := s) (.ref l) (E := E)
    (Q₁ := fun v t => v = .ref s.heap.objs.size ∧ t = { s with heap := s.heap.push (nuS w) }) ⟨rfl, rfl⟩
  refine codeAny_mono big fun r t hr => ?_
  match r, hr with
  | .error e, hr => exact hr
  | .ok (.ret v), hr =>
    obtain ⟨rfl, rfl⟩ := hr
    have at0 : (s.heap.push (nuS w)).get? s.heap.objs.size = some (nuS w) := Heap.get?_push_size _ rfl
    have ty0 : Shared.TypeIs { s with heap := s.heap.push (nuS w) } (.ref s.heap.objs.size) "set" := ⟨_, at0, rfl⟩
    have f6 := F.called_set.init.lookup
    have f7 := F.called_set.init.bind (.ref s.heap.objs.size)
    repeat (any_goals (first | assumption | wp_step))
    have made : codeAny (model P w) A.in1 (.call (.builtin "set.__init__") ⟨[.ref s.heap.objs.size, .ref l], []⟩)
        (wants (fun r t => r = .none ∧ ∃ h' tk c, t = { s with heap := h', toks := tk } ∧ SetR w h' s.heap.objs.size (fun j => decide (j ∈ ns)) c ∧ c ≤ ns.length ∧
          (∀ b o, s.heap.get? b = some o → h'.get? b = some o)) E) { s with heap := s.heap.push (nuS w) } := by
      refine codeAny_call_builtin F.called_set.init.plain F.entry_set_init (check_set_init_1 ty0 ?_)
      obtain ⟨ol, hol, hcl, nl, hdl⟩ := id hL
      obtain ⟨ocls, odict, odata, oslots⟩ := ol
      simp only at hcl hdl
      subst hcl; subst hdl
      have hol' : (s.heap.push (nuS w)).get? l = some { cls := .type "list", dict := odict, data := .seq xs nl, slots := oslots } := Heap.get?_push_of_some _ hol
      have g1 := F.sub_list_set
      have g2 := F.sub_list_frozenset
      have g3 : (Value.type "list" == Value.type "dict") = false := by decide
      have hL1 : (s.heap.push (nuS w)).IsList l xs := ⟨_, hol', rfl, nl, rfl⟩
      unfold Builtin.«set.__init__» noKeywords Builtin.Frozenset.updateFrom
      generalize hg : pyIter = go
      wp_walk
      subst hg
      refine wpAny_pyIter_list hL1 (wpAny_bind (wpAny_runValue ?_))
      have old : l < s.heap.objs.size := Heap.lt_size hol
      have sz : (s.heap.push (nuS w)).objs.size = s.heap.objs.size + 1 := Heap.size_push ..
      have n3 : A.in1.in1.in1.handled = none := by simp [hn]
      have nI : l ≠ (s.heap.push (nuS w)).objs.size := by
        rw [sz]
        exact Nat.ne_of_lt (Nat.lt_succ_of_lt old)
      have nF : s.heap.objs.size ∉ [(s.heap.push (nuS w)).objs.size, l] := by
        rw [sz]
        intro z
        rcases List.mem_cons.mp z with z | z
        · exact absurd z (Nat.ne_of_lt (Nat.lt_succ_self _))
        · exact absurd (List.mem_singleton.mp z) (Nat.ne_of_gt old)
      have each : ∀ (i : Nat) (v : Value), xs[i]? = some v → ∃ k t, ns[i]? = some k ∧ v = .int k t := fun i v hv => by
        have hi : i < ns.length := by
          rw [← hsize]
          exact (Array.getElem?_eq_some_iff.mp hv).1
        obtain ⟨t, e⟩ := IntsAre.int_at ha i v (by rw [Array.getElem?_toList]; exact hv)
        refine ⟨ns[i], t, List.getElem?_eq_getElem hi, ?_⟩
        rw [e, List.getD_eq_getElem?_getD, List.getElem?_eq_getElem hi]
        rfl
      refine set_update_ints ((Walks.list n3 _ l nI xs).toS) s.heap.objs.size nF ns hsize hlen each (xs.size - 0) 0 _ (by omega) (Nat.zero_le _)
        ⟨⟨_, Heap.get?_push_size _ rfl, rfl, rfl⟩, hL1.push _⟩ ⟨0, Nat.le_refl 0, setR_new_at (Heap.get?_push_of_some _ at0)⟩ fun t c hm hc hS => ?_
      obtain ⟨h', gg, dd, tk, oo⟩ := t
      have e1 : gg = s.gens := hm.gens
      have e2 : dd = s.drawn := hm.drawn
      have e3 : oo = s.os := hm.os
      subst e1; subst e2; subst e3
      refine wpAny_pure ?_
      show wpAny _ _ (ret Value.none) _ _ _
      rw [hsize] at hc
      refine wpAny_pure ⟨rfl, h', tk, c, rfl, hS, hc, fun b o e => ?_⟩
      have b0 : b < s.heap.objs.size := Heap.lt_size e
      refine hm.heap b o (fun z => ?_) (Heap.get?_push_of_some _ (Heap.get?_push_of_some _ e))
      rw [sz] at z
      rcases List.mem_cons.mp z with z | z
      · exact absurd z (Nat.ne_of_lt b0)
      · exact absurd (List.mem_singleton.mp z) (Nat.ne_of_lt (Nat.lt_succ_of_lt b0))
    refine codeAny_mono made fun r t hr => ?_
    match r, hr with
    | .error e, hr => exact hr
    | .ok (.ret v), hr =>
      obtain ⟨rfl, h', tk, c, rfl, hS, hc, hk⟩ := hr
      repeat (any_goals (first | assumption | wp_step))
      exact q _ _ _ hS hc hk
    | .ok .next, hr => exact hr.elim
    | .ok .brk, hr => exact hr.elim
    | .ok .cont, hr => exact hr.elim
  | .ok .next, hr => exact hr.elim
  | .ok .brk, hr => exact hr.elim
  | .ok .cont, hr => exact hr.elim
end
section
variable {X : Cx}
/-- sorted(set(xs)) of a list of numbers: the numbers, rising, each once -/
def tSortSet (K : PySem.W.Frag) (ta : TE) : TE := fun σ H Q => ta σ H fun x H1 => ∃ (l : Addr) (ns : List Int), x = V.ref l ∧ SqL K H1 l (ns.map V.int) ∧ ns.length < 64 ∧
  ∀ (out : List Int) (p : Addr), out.Pairwise (· < ·) → (∀ k : Int, k ∈ out ↔ k ∈ ns) → out.length ≤ ns.length → H1 p = none → Q (.ref p) (upd H1 p (.lst (out.map V.int)))
theorem pe_sortSet {a : Expr} {ta : TE} {p p2 q pos : Pos} (hg : Gl X "sorted") (hm : X.mg "sorted" = none) (hg2 : Gl X "set") (hm2 : X.mg "set" = none) (ha : PE X a ta) (hc : X.calm = true := by rfl)
    (na : starEach [a] X.env = (false, eval a X.env) :: starEach [] X.env := by rfl)
    (nb : starEach [Expr.Call (.Name "set" p2) [a] [] q] X.env = (false, eval (Expr.Call (.Name "set" p2) [a] [] q) X.env) :: starEach [] X.env := by rfl) :
    PE X (.Call (.Name "sorted" p) [.Call (.Name "set" p2) [a] [] q] [] pos) (tSortSet X.K ta) := by
  refine ⟨fun pins s σ H Q I h => ?_⟩
  refine Call_ (ld_blt I hg hm (show bootBuiltins "sorted" = some (.builtin "sorted") by with_unfolding_all rfl) ?_)
  refine callWith_builtin1 (args_cons ?_ nb) rfl rfl
  refine Call_ (ld_blt I hg2 hm2 boot_set ?_)
  refine callWith_type1 (args_cons (thn (ha.run pins s σ H _ I h) fun v s1 ⟨x, H1, I1, r1, q1⟩ => args_nil ?_) na) na rfl
  obtain ⟨l, ns, rfl, hq, hl, q1⟩ := q1
  cases r1
  obtain ⟨its, r, pl, hz⟩ := I1.list hq
  refine call_setL ns (I1.ok.hd hc) pl.isList (by simpa using RZ.intsAre_vals r) (by unfold scanBound; omega) fun h' tk c hS hcl hk => ?_
  refine args_nil ?_
  have I2 : Inv X pins σ H1 { s1 with heap := h', toks := tk } := I1.kept fun b o e => hk b o e
  refine sorted_set hS (I2.ok.hd hc) (by omega) fun s' p' out' c' ks k' g' o' hp hgt hi hs hmm hl' => ?_
  have fresh : H1 p' = none := I2.hok.fresh hp
  have len : (ks.map V.int).length ≤ sizeLine := by
    rw [List.length_map, hl', sizeLine_eq]
    omega
  have J : Inv X pins σ (upd H1 p' (.lst (ks.map V.int))) s' := I2.call' (ch := []) o' (Un.laid k' hp fresh) (I2.hok.laid k' hp ⟨len, out'.toList, c', vals_of_ints hi, hgt⟩) (by rw [g']; exact I2.bare) fun _ z => nomatch z
  refine ⟨.ref p', _, J, rfl, q1 ks p' hs (fun k => by rw [hmm k, decide_eq_true_eq]) (by omega) fresh⟩
end
end Gd

/-! # {d[x]: True for x in d if 0 < d[x] < whole}, d a dict of numbers -/
namespace Gd
open PySem PySem.Spec PyProof.Rows L2 RZ
theorem pe_mono {X : Cx} {e : Expr} {t t' : TE} (h : PE X e t) (m : ∀ σ H Q, t' σ H Q → t σ H Q) : PE X e t' := ⟨fun pins s σ H Q I z => h.run pins s σ H Q I (m σ H Q z)⟩
/-- the numbers that lie between 0 and a whole, as keys -/
def insK (W : Int) (ns : List Int) : List (Key × V) := mergeK [] ((ns.filter fun n => decide (0 < n) && decide (n < W)).map fun n => ((Sum.inl n : Key), V.bl true))
theorem insK_put {W : Int} {ns : List Int} {n : Int} : insK W (ns ++ [n]) = if decide (0 < n) && decide (n < W) then putK (insK W ns) (Sum.inl n) (.bl true) else insK W ns := by
  unfold insK
  rw [List.filter_append, List.map_append]
  unfold mergeK
  rw [List.foldl_append]
  cases c : (decide (0 < n) && decide (n < W)) with
  | true =>
    have e : ([n].filter fun n => decide (0 < n) && decide (n < W)) = [n] := by simp only [List.filter, c]
    rw [e]
    rfl
  | false =>
    have e : ([n].filter fun n => decide (0 < n) && decide (n < W)) = [] := by simp only [List.filter, c]
    rw [e]
    rfl
theorem putK_len {kvs : List (Key × V)} {k : Key} {v : V} : (putK kvs k v).length ≤ kvs.length + 1 := by
  unfold putK
  split
  · rw [List.length_map]; omega
  · rw [List.length_append]; exact Nat.le_refl _
theorem insK_len {W : Int} : ∀ {ns : List Int}, (insK W ns).length ≤ ns.length := by
  have : ∀ (l : List Int) (acc : List (Key × V)), (mergeK acc (l.map fun n => ((Sum.inl n : Key), V.bl true))).length ≤ acc.length + l.length := by
    intro l
    induction l with
    | nil => intro acc; exact Nat.le_refl _
    | cons n r ih =>
      intro acc
      have h1 := ih (putK acc (Sum.inl n) (.bl true))
      have h2 := putK_len (kvs := acc) (k := Sum.inl n) (v := .bl true)
      show (mergeK (putK acc (Sum.inl n) (.bl true)) (r.map _)).length ≤ acc.length + (r.length + 1)
      omega
  intro ns
  have h1 := this (ns.filter fun n => decide (0 < n) && decide (n < W)) []
  have h2 := List.length_filter_le (fun n => decide (0 < n) && decide (n < W)) ns
  have h3 : ([] : List (Key × V)).length = 0 := rfl
  unfold insK
  omega
def tInside (i j l : Nat) : TE := fun σ H Q => ∃ (p : Addr) (kvs : List (Key × V)) (ns : List Int) (W : Int), i ≠ j ∧ i ≠ l ∧ i < σ.length ∧ σ[j]? = some (some (.ref p)) ∧ σ[l]? = some (some (.int W)) ∧ H p = some (.dK kvs) ∧ kvs.map Prod.snd = ns.map V.int ∧
  (∀ (n : Nat) kv, kvs[n]? = some kv → valV kvs kv.1 = some kv.2) ∧ kvs.length < 1000 ∧ ∀ D, H D = none → Q (.ref D) (upd H D (.dK (insK W ns)))
theorem inside_reads {i j l : Nat} {σ : L2.St} {H : Hp} {Q : VK} (h : tInside i j l σ H Q) :
    tLockE (tDc (iKeys (tVar j)) (gName i) (tTest (tChain (rI0 fun i j => V.bl (decide (i < j))) (rI0 fun i j => V.bl (decide (i < j))) (tC (.int 0)) (tDGet (tVar j) (tVar i)) (tVar l))) (tDGet (tVar j) (tVar i)) (tC (.bl true)) [i]) σ H Q := by
  obtain ⟨p, kvs, ns, W, nij, nil', hi, hj, hl, hp, hn, hv, hlen, q⟩ := h
  have kl : kvs.length = ns.length := by
    have := congrArg List.length hn
    rw [List.length_map, List.length_map] at this
    exact this
  refine ⟨p, _, hp, trivial, fun od => ?_⟩
  generalize eF : upd H p (.frz od (.dK kvs)) = HF
  have hF : HF p = some (.frz od (.dK kvs)) := by rw [← eF, upd_same]
  refine ⟨_, hj, p, od, rfl, .inl ⟨kvs, hF, fun D hD => ?_⟩⟩
  have pD : p ≠ D := fun z => by rw [z, hD] at hF; cases hF
  refine ⟨fun n m H' => n ≤ kvs.length ∧ m = kvs.length - n ∧ H' = upd HF D (.dK (insK W (ns.take n))), ⟨_, Nat.zero_le _, rfl, rfl⟩, ?_⟩
  rintro n m H' ⟨hn1, rfl, rfl⟩
  have hd : (upd HF D (.dK (insK W (ns.take n)))) p = some (.frz od (.dK kvs)) := by rw [upd_ne pD]; exact hF
  by_cases c : n = kvs.length
  · subst c
    refine .inl ⟨⟨hd, Nat.le_refl _⟩, hd, ?_⟩
    rw [kl, List.take_length]
    have e : upd (upd HF D (.dK (insK W ns))) p (.dK kvs) = upd H D (.dK (insK W ns)) := by
      funext b
      unfold upd
      by_cases e1 : b = p
      · rw [if_pos e1, if_neg (fun z => pD (e1 ▸ z)), e1, hp]
      · rw [if_neg e1]
        by_cases e2 : b = D
        · rw [if_pos e2, if_pos e2]
        · rw [if_neg e2, if_neg e2, ← eF, upd_ne e1]
    rw [e]
    refine q D ?_
    rw [← eF, upd_ne (Ne.symm pD)] at hD
    exact hD
  · have hlt : n < kvs.length := by omega
    refine .inr ⟨⟨hd, hlt⟩, fun H2 => H2 = upd HF D (.dK (insK W (ns.take (n + 1)))), fun H2 e => ⟨kvs.length - (n + 1), by omega, by omega, rfl, e⟩, ?_⟩
    rintro x H2 ⟨rfl, k, v, hkv, rfl⟩
    have hns : ns[n]? = some (ns.getD n 0) := by
      rw [List.getD_eq_getElem?_getD, List.getElem?_eq_getElem (by omega)]
      rfl
    have ev : v = .int (ns.getD n 0) := by
      have e := congrArg (fun l => l[n]?) hn
      simp only [List.getElem?_map] at e
      rw [hkv, hns] at e
      exact Option.some.inj e
    subst ev
    have tk : ns.take (n + 1) = ns.take n ++ [ns.getD n 0] := by
      rw [List.take_add_one, hns]
      rfl
    have hw : wipe σ [i] = σ.set i none := rfl
    have s1 : (((wipe σ [i]).set i (some (kV k))))[j]? = some (some (.ref p)) := by
      rw [hw, List.set_set, List.getElem?_set_ne nij]
      exact hj
    have s2 : (((wipe σ [i]).set i (some (kV k))))[i]? = some (some (kV k)) := by
      rw [hw, List.set_set, List.getElem?_set_self hi]
    have s3 : (((wipe σ [i]).set i (some (kV k))))[l]? = some (some (.int W)) := by
      rw [hw, List.set_set, List.getElem?_set_ne nil']
      exact hl
    have dg : DGet (upd HF D (.dK (insK W (ns.take n)))) p (kV k) (some (.int (ns.getD n 0))) := .inl ⟨kvs, k, .inr ⟨od, hd⟩, rfl, (hv n _ hkv).symm⟩
    refine ⟨?_, ?_⟩
    · rw [hw, List.set_set]
      show ((σ.set i (some (kV k))).set i none) = _
      rw [List.set_set]
    have next : ∀ b : Bool, b = (decide (0 < ns.getD n 0) && decide (ns.getD n 0 < W)) →
        (if b = true then tDGet (tVar j) (tVar i) ((wipe σ [i]).set i (some (kV k))) (upd HF D (.dK (insK W (ns.take n)))) fun y H4 => tC (.bl true) ((wipe σ [i]).set i (some (kV k))) H4 fun z H5 =>
          ∃ kvs k, y = kV k ∧ H5 D = some (.dK kvs) ∧ kvs.length < sizeLine ∧ (fun H2 => H2 = upd HF D (.dK (insK W (ns.take (n + 1))))) (upd H5 D (.dK (putK kvs k z)))
        else (fun H2 => H2 = upd HF D (.dK (insK W (ns.take (n + 1))))) (upd HF D (.dK (insK W (ns.take n))))) := by
      intro b eb
      have st : insK W (ns.take (n + 1)) = if b = true then putK (insK W (ns.take n)) (Sum.inl (ns.getD n 0)) (.bl true) else insK W (ns.take n) := by
        rw [tk, insK_put, ← eb]
      cases b with
      | false =>
        rw [if_neg Bool.false_ne_true]
        show _ = _
        rw [st, if_neg Bool.false_ne_true]
      | true =>
        rw [if_pos rfl]
        refine ⟨_, s1, _, s2, p, _, rfl, dg, insK W (ns.take n), Sum.inl (ns.getD n 0), rfl, upd_same, ?_, ?_⟩
        · have h1 := insK_len (W := W) (ns := ns.take n)
          have h2 : (ns.take n).length ≤ n := by rw [List.length_take]; omega
          have : (1000 : Nat) ≤ sizeLine := by decide
          omega
        · show upd (upd HF D _) D _ = _
          rw [upd_upd, st, if_pos rfl]
    refine ⟨_, s1, _, s2, p, _, rfl, dg, 0, ns.getD n 0, rfl, rfl, ?_⟩
    refine ⟨_, rfl, ?_⟩
    by_cases c1 : 0 < ns.getD n 0
    · rw [if_pos (decide_eq_true c1)]
      refine ⟨_, s3, _, _, rfl, rfl, ?_⟩
      exact ⟨_, rfl, next _ (by rw [decide_eq_true c1, Bool.true_and])⟩
    · rw [if_neg (by rw [decide_eq_false c1]; exact Bool.false_ne_true)]
      exact ⟨_, rfl, next _ (by rw [decide_eq_false c1, Bool.false_and])⟩
/-- list(range(n)) -/
theorem pe_listRg1 {X : Cx} {a : Expr} {ta : TE} {p p2 q pos : Pos} (hg : Gl X "list") (hm : X.mg "list" = none) (hg2 : Gl X "range") (hm2 : X.mg "range" = none) (ha : PE X a ta) (hc : X.calm = true := by rfl)
    (na : starEach [a] X.env = (false, eval a X.env) :: starEach [] X.env := by rfl)
    (nb : starEach [Expr.Call (.Name "range" p2) [a] [] q] X.env = (false, eval (Expr.Call (.Name "range" p2) [a] [] q) X.env) :: starEach [] X.env := by rfl) :
    PE X (.Call (.Name "list" p) [.Call (.Name "range" p2) [a] [] q] [] pos) (tLstRg (tRg1 ta)) := pe_listRg hc hg hm (prg_1 hg2 hm2 ha na) nb
end Gd

namespace Gd
open PySem PySem.Spec PyProof.Rows L2 RZ
/-- at m stands a state from which at most n draws by place were made -/
def MAt (H : Hp) (m : Addr) (n : Nat) : Prop := ∃ (l s p : Int) (c : Addr) (cs : List Int), H m = some (.dK (mk l s c p)) ∧ H c = some (.lst (cs.map V.int)) ∧
  cs ≠ [] ∧ cs.length ≤ 200 ∧ 0 ≤ l ∧ 0 ≤ s ∧ s < 2147483647 ∧ 0 ≤ p ∧ p ≤ (n : Int)
theorem MAt.mono {H : Hp} {m : Addr} {n k : Nat} (h : MAt H m n) (q : n ≤ k) : MAt H m k := by
  obtain ⟨l, s, p, c, cs, a1, a2, a3, a4, a5, a6, a7, a8, a9⟩ := h
  exact ⟨l, s, p, c, cs, a1, a2, a3, a4, a5, a6, a7, a8, by omega⟩
theorem MAt.same {H H' : Hp} {m : Addr} {n : Nat} (h : MAt H m n) (q : Same H H') : MAt H' m n := by
  obtain ⟨l, s, p, c, cs, a1, a2, r⟩ := h
  exact ⟨l, s, p, c, cs, q _ _ a1, q _ _ a2, r⟩
theorem MAt.dict {H : Hp} {m : Addr} {n : Nat} (h : MAt H m n) : ∃ kvs, H m = some (.dK kvs) := by
  obtain ⟨l, s, p, c, cs, a1, _⟩ := h
  exact ⟨_, a1⟩
theorem MAt.tup {H H' : Hp} {m p : Addr} {n : Nat} {xs : List V} (h : MAt H m n) (k : Kp m H H') (e : H p = some (.tup xs)) : H' p = some (.tup xs) := by
  obtain ⟨kvs, hm⟩ := h.dict
  exact k.get e hm (fun z => nomatch z)
theorem MAt.lst {H H' : Hp} {m p : Addr} {n : Nat} {xs : List V} (h : MAt H m n) (k : Kp m H H') (e : H p = some (.lst xs)) : H' p = some (.lst xs) := by
  obtain ⟨kvs, hm⟩ := h.dict
  exact k.get e hm (fun z => nomatch z)
/-- the list of the cells of the state at m -/
def Cel (H : Hp) (m c : Addr) : Prop := ∃ l s p : Int, H m = some (.dK (mk l s c p))
theorem Cel.eq {H : Hp} {m c d : Addr} {l s p : Int} (h : Cel H m d) (e : H m = some (.dK (mk l s c p))) : c = d := by
  obtain ⟨l', s', p', e'⟩ := h
  rw [e] at e'
  have e2 := HO.dK.inj (Option.some.inj e')
  unfold mk at e2
  simp only [List.cons.injEq, Prod.mk.injEq, V.ref.injEq] at e2
  exact e2.2.2.1.2
theorem MAt.cel {H : Hp} {m : Addr} {n : Nat} (h : MAt H m n) : ∃ c, Cel H m c ∧ (∃ o, H c = some o) := by
  obtain ⟨l, s, p, c, cs, a1, a2, _⟩ := h
  exact ⟨c, ⟨l, s, p, a1⟩, _, a2⟩
theorem MAt.upd {H : Hp} {m c a : Addr} {n : Nat} (h : MAt H m n) (hc : Cel H m c) (h1 : a ≠ m) (h2 : a ≠ c) (o : HO) : MAt (upd H a o) m n := by
  obtain ⟨l, s, p, c', cs, a1, a2, r⟩ := h
  obtain rfl := hc.eq a1
  exact ⟨l, s, p, c', cs, by rw [upd_ne (Ne.symm h1)]; exact a1, by rw [upd_ne (Ne.symm h2)]; exact a2, r⟩
theorem FnOk_weak {P : Program} {w : World} {K : PySem.W.Frag} {mg : Str → Option Value} {base : Heap} {CX : CXT} {k : Nat} {f : Addr} {fd : FuncData} {ps : List Str} {sp sp' : Sp} (F : FnOk P w K mg base CX k f fd ps sp) (h : ∀ vs H Q E, sp' vs H Q E → sp vs H Q E) : FnOk P w K mg base CX k f fd ps sp' :=
  ⟨fun vs H Q E z => F.len vs H Q E (h vs H Q E z), fun A outer s H args us vs Q E hr e0 hb r z => F.run A outer s H args us vs Q E hr e0 hb r (h vs H Q E z)⟩
end Gd
/-! # data without a heap: what stands at a value, read as a tree; what a frame holds -/
namespace Pu
open PySem PySem.Spec PyProof.Rows L2 Gd RZ

/-- data: `st` stands for the one state from which a law draws -/
inductive D where
  | non | bl (b : Bool) | int (i : Int) | str (x : Str) | tup (xs : List D) | lst (xs : List D) | dic (kvs : List (Key × D)) | st | raw (v : V)
/-- a scalar as data -/
def cD : V → D
  | .non => .non | .bl b => .bl b | .int i => .int i | .str x => .str x | v => .raw v
mutual
inductive DAt (K : PySem.W.Frag) (mo : Option Addr) (S : Hp) : D → V → Prop
  | non : DAt K mo S .non .non
  | bl (b : Bool) : DAt K mo S (.bl b) (.bl b)
  | int (i : Int) : DAt K mo S (.int i) (.int i)
  | str (x : Str) : DAt K mo S (.str x) (.str x)
  | tup {p : Addr} {xs : List D} {vs : List V} : SqT K S p vs → DsAt K mo S xs vs → xs.length ≤ sizeLine → DAt K mo S (.tup xs) (.ref p)
  | lst {p : Addr} {xs : List D} {vs : List V} : S p = some (.lst vs) → DsAt K mo S xs vs → xs.length ≤ sizeLine → DAt K mo S (.lst xs) (.ref p)
  | dic {p : Addr} {kvs : List (Key × D)} {kv' : List (Key × V)} : S p = some (.dK kv') → KvAt K mo S kvs kv' → kvs.length ≤ sizeLine → DAt K mo S (.dic kvs) (.ref p)
  | st {m : Addr} : mo = some m → DAt K mo S .st (.ref m)
  | raw (v : V) : DAt K mo S (.raw v) v
inductive DsAt (K : PySem.W.Frag) (mo : Option Addr) (S : Hp) : List D → List V → Prop
  | nil : DsAt K mo S [] []
  | cons {x : D} {v : V} {xs : List D} {vs : List V} : DAt K mo S x v → DsAt K mo S xs vs → DsAt K mo S (x :: xs) (v :: vs)
inductive KvAt (K : PySem.W.Frag) (mo : Option Addr) (S : Hp) : List (Key × D) → List (Key × V) → Prop
  | nil : KvAt K mo S [] []
  | cons {k : Key} {x : D} {v : V} {xs : List (Key × D)} {vs : List (Key × V)} : DAt K mo S x v → KvAt K mo S xs vs → KvAt K mo S ((k, x) :: xs) ((k, v) :: vs)
end
section
variable {K : PySem.W.Frag} {mo : Option Addr} {S S' : Hp}
mutual
theorem DAt.mono (h : Same S S') : ∀ {x : D} {v : V}, DAt K mo S x v → DAt K mo S' x v
  | _, _, .non => .non
  | _, _, .bl b => .bl b
  | _, _, .int i => .int i
  | _, _, .str x => .str x
  | _, _, .tup a b c => .tup (h.seqT a) (DsAt.mono h b) c
  | _, _, .lst a b c => .lst (h _ _ a) (DsAt.mono h b) c
  | _, _, .dic a b c => .dic (h _ _ a) (KvAt.mono h b) c
  | _, _, .st e => .st e
  | _, _, .raw v => .raw v
theorem DsAt.mono (h : Same S S') : ∀ {xs : List D} {vs : List V}, DsAt K mo S xs vs → DsAt K mo S' xs vs
  | _, _, .nil => .nil
  | _, _, .cons a b => .cons (DAt.mono h a) (DsAt.mono h b)
theorem KvAt.mono (h : Same S S') : ∀ {xs : List (Key × D)} {vs : List (Key × V)}, KvAt K mo S xs vs → KvAt K mo S' xs vs
  | _, _, .nil => .nil
  | _, _, .cons a b => .cons (DAt.mono h a) (KvAt.mono h b)
end
theorem DAt.c (v : V) : DAt K mo S (cD v) v := by
  cases v <;> first | exact .non | exact .bl _ | exact .int _ | exact .str _ | exact .raw _
theorem DsAt.length : ∀ {xs : List D} {vs : List V}, DsAt K mo S xs vs → xs.length = vs.length
  | _, _, .nil => rfl
  | _, _, .cons _ b => congrArg (· + 1) (DsAt.length b)
theorem KvAt.length : ∀ {xs : List (Key × D)} {vs : List (Key × V)}, KvAt K mo S xs vs → xs.length = vs.length
  | _, _, .nil => rfl
  | _, _, .cons _ b => congrArg (· + 1) (KvAt.length b)
theorem DsAt.get : ∀ {xs : List D} {vs : List V} {i : Nat} {x : D}, DsAt K mo S xs vs → xs[i]? = some x → ∃ v, vs[i]? = some v ∧ DAt K mo S x v
  | _, _, _, _, .nil, e => by simp at e
  | _, _, 0, _, .cons a _, e => by simp at e; subst e; exact ⟨_, rfl, a⟩
  | _, _, i + 1, x, .cons _ b, e => by
    obtain ⟨u, h1, h2⟩ := DsAt.get (i := i) (x := x) b (by simpa using e)
    exact ⟨u, by simpa using h1, h2⟩
theorem DsAt.append : ∀ {xs ys : List D} {vs ws : List V}, DsAt K mo S xs vs → DsAt K mo S ys ws → DsAt K mo S (xs ++ ys) (vs ++ ws)
  | _, _, _, _, .nil, h => h
  | _, _, _, _, .cons a b, h => .cons a (DsAt.append b h)
theorem DsAt.split : ∀ {xs ys : List D} {vs ws : List V}, xs.length = vs.length → DsAt K mo S (xs ++ ys) (vs ++ ws) → DsAt K mo S xs vs ∧ DsAt K mo S ys ws
  | [], _, [], _, _, h => ⟨.nil, h⟩
  | [], _, _ :: _, _, e, _ => by simp at e
  | _ :: _, _, [], _, e, _ => by simp at e
  | _ :: _, _, _ :: _, _, e, .cons a b => by
    obtain ⟨h1, h2⟩ := DsAt.split (by simpa using e) b
    exact ⟨.cons a h1, h2⟩
theorem DsAt.drop (n : Nat) : ∀ {xs : List D} {vs : List V}, DsAt K mo S xs vs → DsAt K mo S (xs.drop n) (vs.drop n) := by
  induction n with
  | zero => intro xs vs h; exact h
  | succ n ih =>
    intro xs vs h
    cases h with
    | nil => exact .nil
    | cons a b => exact ih b
theorem DsAt.take (n : Nat) : ∀ {xs : List D} {vs : List V}, DsAt K mo S xs vs → DsAt K mo S (xs.take n) (vs.take n) := by
  induction n with
  | zero => intro xs vs h; exact .nil
  | succ n ih =>
    intro xs vs h
    cases h with
    | nil => exact .nil
    | cons a b => exact .cons a (ih b)
theorem DsAt.rev {xs : List D} {vs : List V} (h : DsAt K mo S xs vs) : DsAt K mo S xs.reverse vs.reverse := by
  induction xs generalizing vs with
  | nil => cases h; exact .nil
  | cons x r ih =>
    cases h with
    | cons a b =>
      rw [List.reverse_cons, List.reverse_cons]
      exact (ih b).append (.cons a .nil)
theorem DsAt.set {xs : List D} {vs : List V} {x : D} {v : V} (i : Nat) (h : DsAt K mo S xs vs) (a : DAt K mo S x v) : DsAt K mo S (xs.set i x) (vs.set i v) := by
  induction xs generalizing vs i with
  | nil => cases h; exact .nil
  | cons y r ih =>
    cases h with
    | cons b c =>
      cases i with
      | zero => exact .cons a c
      | succ i => exact .cons b (ih i c)
end

/-! ### what a frame holds -/
/-- a slot: unset (or not known), data, a list or a dict of its own (nothing else leads to it) -/
inductive Slo where
  | u | d (x : D) | l (xs : List D) | k (kvs : List (Key × D))
def Slo.own : Slo → Bool
  | .l _ => true | .k _ => true | _ => false
/-- how many draws were made at most; the slots -/
structure Fr where
  n : Nat
  g : List Slo
/-- what a def began with: the heap, what may be read there; the state; whether the def may draw -/
structure Root where
  K : PySem.W.Frag
  H0 : Hp
  S0 : Hp
  mo : Option Addr
  live : Bool
  tabs : Bool
  T : List (Addr × Str)
/-- what must stay: all, or all but the tables -/
def Root.nt (R : Root) (o : HO) : Prop := R.tabs = true → ∀ ps, o ≠ .tbl ps
/-- nothing that must stay stood there -/
def Root.fr (R : Root) (p : Addr) : Prop := ∀ o, R.H0 p = some o → ¬ R.nt o
theorem Root.fr_ne {R : Root} {p a : Addr} {o : HO} (h : R.fr p) (e : R.H0 a = some o) (n : R.nt o) : a ≠ p := fun z => h o (z ▸ e) n
def SlotAt (K : PySem.W.Frag) (mo : Option Addr) (S H : Hp) : Slo → Option (Option V) → Prop
  | .u, _ => True
  | .d x, o => ∃ v, o = some (some v) ∧ DAt K mo S x v
  | .l xs, o => ∃ p vs, o = some (some (.ref p)) ∧ H p = some (.lst vs) ∧ DsAt K mo S xs vs ∧ xs.length ≤ sizeLine
  | .k kvs, o => ∃ p kv', o = some (some (.ref p)) ∧ H p = some (.dK kv') ∧ KvAt K mo S kvs kv' ∧ kvs.length ≤ sizeLine
def Owns (g : List Slo) (σ : L2.St) (i : Nat) (p : Addr) : Prop := (∃ w, g[i]? = some w ∧ w.own = true) ∧ σ[i]? = some (some (.ref p))
structure RepS (R : Root) (hd : List (Addr × HO)) (e : Fr) (ts : List D) (vs : List V) (σ : L2.St) (H S : Hp) : Prop where
  keep : ∀ a o, (R.live = true → some a ≠ R.mo) → R.nt o → R.H0 a = some o → H a = some o
  s0 : Same R.S0 S
  old : ∀ a o, R.H0 a = some o → R.nt o → R.S0 a = none → S a = none
  sh : Same S H
  len : σ.length = e.g.length
  slots : ∀ (i : Nat) (w : Slo), e.g[i]? = some w → SlotAt R.K R.mo S H w σ[i]?
  tmp : DsAt R.K R.mo S ts vs
  own : ∀ (i : Nat) (p : Addr), Owns e.g σ i p → S p = none ∧ R.fr p
  inj : ∀ (i j : Nat) (p : Addr), Owns e.g σ i p → Owns e.g σ j p → i = j
  hid : ∀ p o, (p, o) ∈ hd → H p = some o ∧ S p = none ∧ R.fr p ∧ ∀ i, ¬ Owns e.g σ i p
  hnt : ∀ p o, (p, o) ∈ hd → (∀ ps, o ≠ .tbl ps) ∧ ∀ fs, o ≠ .xd fs
  st : R.live = true → ∀ m, R.mo = some m → (∃ o, R.H0 m = some o ∧ R.nt o) ∧ S m = none ∧ MAt H m e.n ∧ (∀ c, Cel H m c → ∃ o, S c = some o) ∧ (∀ c, Cel R.H0 m c → Cel H m c)
  tab : R.tabs = true → LamX.Tabs R.T H
  tb : (∀ a ps, R.S0 a ≠ some (.tbl ps)) → ∀ a ps, S a ≠ some (.tbl ps)
def Rep (R : Root) (hd : List (Addr × HO)) (e : Fr) (ts : List D) (vs : List V) (σ : L2.St) (H : Hp) : Prop := ∃ S, RepS R hd e ts vs σ H S
/-- more objects, what stood stays; what may be read grows by new objects only -/
structure New (S H S' H' : Hp) : Prop where
  hh : Same H H'
  ss : Same S S'
  sh : Same S' H'
  nw : ∀ a, H a ≠ none → S a = none → S' a = none
  tb : (∀ a ps, S a ≠ some (.tbl ps)) → ∀ a ps, S' a ≠ some (.tbl ps)
section
variable {S H S' H' S1 H1 : Hp}
theorem New.refl (h : Same S H) : New S H S H := ⟨Same.refl _, Same.refl _, h, fun _ _ q => q, fun h => h⟩
theorem New.trans (a : New S H S1 H1) (b : New S1 H1 S' H') : New S H S' H' :=
  ⟨a.hh.trans b.hh, a.ss.trans b.ss, b.sh, fun c h q => b.nw c (fun z => by
    cases y : H c with
    | none => exact h y
    | some o => rw [a.hh c o y] at z; cases z) (a.nw c h q), fun h => b.tb (a.tb h)⟩
theorem New.one (h : Same S H) {p : Addr} (hp : H p = none) (o : HO) (ho : ∀ ps, o ≠ .tbl ps := by intro ps z; cases z) : New S H (upd S p o) (upd H p o) := by
  have sp : S p = none := by
    cases z : S p with
    | none => rfl
    | some u => rw [h p u z] at hp; cases hp
  refine ⟨Same.new hp o, Same.new sp o, fun b u q => ?_, fun a ha q => ?_, fun h a ps q => ?_⟩
  · by_cases e : b = p
    · subst e; rw [upd_same] at q; rw [upd_same]; exact q
    · rw [upd_ne e] at q; rw [upd_ne e]; exact h b u q
  · have e : a ≠ p := fun z => ha (by rw [z]; exact hp)
    rw [upd_ne e]; exact q
  · by_cases e : a = p
    · subst e; rw [upd_same] at q; exact ho ps (Option.some.inj q)
    · rw [upd_ne e] at q; exact h a ps q
end
theorem _root_.Gd.Cel.same {H H' : Hp} {m c : Addr} (s : Same H H') (h : Cel H m c) : Cel H' m c := by
  obtain ⟨l, sd, p, e⟩ := h
  exact ⟨l, sd, p, s _ _ e⟩
theorem _root_.Gd.Cel.back {H H' : Hp} {m c : Addr} {n : Nat} (s : Same H H') (hm : MAt H m n) (h : Cel H' m c) : Cel H m c := by
  obtain ⟨c', h1, _⟩ := hm.cel
  obtain ⟨l, sd, p, e⟩ := id h1
  have e2 := (h.eq (s _ _ e))
  rw [← e2]
  exact h1
section
variable {R : Root} {hd : List (Addr × HO)} {e : Fr} {ts : List D} {vs : List V} {σ : L2.St} {H S H' S' : Hp}
theorem SlotAt.mono {K : PySem.W.Frag} {mo : Option Addr} (ss : Same S S') {w : Slo} {o : Option (Option V)} (hh : ∀ p u, w.own = true → o = some (some (.ref p)) → H p = some u → H' p = some u) (h : SlotAt K mo S H w o) : SlotAt K mo S' H' w o := by
  cases w with
  | u => trivial
  | d x => obtain ⟨v, e, h⟩ := h; exact ⟨v, e, h.mono ss⟩
  | l xs => obtain ⟨p, vs, e, h1, h2, h3⟩ := h; exact ⟨p, vs, e, hh _ _ rfl e h1, h2.mono ss, h3⟩
  | k xs => obtain ⟨p, vs, e, h1, h2, h3⟩ := h; exact ⟨p, vs, e, hh _ _ rfl e h1, h2.mono ss, h3⟩
theorem SlotAt.there {K : PySem.W.Frag} {mo : Option Addr} {w : Slo} {p : Addr} (h : SlotAt K mo S H w (some (some (.ref p)))) (ow : w.own = true) : H p ≠ none := by
  cases w with
  | u => cases ow
  | d x => cases ow
  | l xs => obtain ⟨q, vs, e, h1, _⟩ := h; cases e; rw [h1]; exact fun z => nomatch z
  | k xs => obtain ⟨q, vs, e, h1, _⟩ := h; cases e; rw [h1]; exact fun z => nomatch z
theorem RepS.there (r : RepS R hd e ts vs σ H S) {i : Nat} {p : Addr} (h : Owns e.g σ i p) : H p ≠ none := by
  obtain ⟨⟨w, hw, ow⟩, hp⟩ := h
  have q := r.slots i w hw
  rw [hp] at q
  exact q.there ow
/-- the heap grows -/
theorem RepS.grow (r : RepS R hd e ts vs σ H S) (n : New S H S' H') : RepS R hd e ts vs σ H' S' where
  keep := fun a o h hn q => n.hh a o (r.keep a o h hn q)
  s0 := r.s0.trans n.ss
  old := fun a o h hn q => by
    cases z : H a with
    | some o' => exact n.nw a (by rw [z]; exact fun y => nomatch y) (r.old a o h hn q)
    | none =>
      by_cases hl : R.live = true → some a ≠ R.mo
      · rw [r.keep a o hl hn h] at z; cases z
      · have hl' : R.live = true ∧ some a = R.mo := by
          by_cases h1 : R.live = true
          · exact ⟨h1, by by_cases h2 : some a = R.mo; exact h2; exact absurd (fun _ => h2) hl⟩
          · exact absurd (fun x => absurd x h1) hl
        obtain ⟨_, _, hm, _⟩ := r.st hl'.1 a hl'.2.symm
        obtain ⟨l, s, p, c, cs, a1, _⟩ := hm
        rw [a1] at z; cases z
  sh := n.sh
  len := r.len
  slots := fun i w h => (r.slots i w h).mono n.ss fun p u _ _ => n.hh p u
  tmp := r.tmp.mono n.ss
  own := fun i p h => ⟨n.nw p (r.there h) (r.own i p h).1, (r.own i p h).2⟩
  inj := r.inj
  hnt := r.hnt
  hid := fun p o h => by
    obtain ⟨h1, h2, h3, h4⟩ := r.hid p o h
    exact ⟨n.hh _ _ h1, n.nw p (by rw [h1]; exact fun z => nomatch z) h2, h3, h4⟩
  st := fun hl m e => by
    obtain ⟨h0, h1, h2, h3, h4⟩ := r.st hl m e
    refine ⟨h0, n.nw m ?_ h1, h2.same n.hh, fun c hc => ?_, fun c hc => (h4 c hc).same n.hh⟩
    · obtain ⟨l, s, p, c, cs, a1, _⟩ := h2
      rw [a1]; exact fun z => nomatch z
    · obtain ⟨o, ho⟩ := h3 c (Cel.back n.hh h2 hc)
      exact ⟨o, n.ss _ _ ho⟩
  tab := fun hl p hp => (r.tab hl p hp).ext n.hh
  tb := fun h => n.tb (r.tb h)
theorem RepS.push (r : RepS R hd e ts vs σ H S) {x : D} {v : V} (h : DAt R.K R.mo S x v) : RepS R hd e (x :: ts) (v :: vs) σ H S :=
  { r with tmp := .cons h r.tmp }
theorem RepS.temps (r : RepS R hd e ts vs σ H S) {us : List D} {ws : List V} (h : DsAt R.K R.mo S us ws) : RepS R hd e us ws σ H S :=
  { r with tmp := h }
theorem Rep.pop {x : D} {v : V} (r : Rep R hd e (x :: ts) (v :: vs) σ H) : Rep R hd e ts vs σ H := by
  obtain ⟨S, r⟩ := r
  cases r.tmp with
  | cons _ h => exact ⟨S, r.temps h⟩
end
end Pu

/-! # readings over data, and that they are readings over the heap -/
namespace Pu
open PySem PySem.Spec PyProof.Rows L2 Gd RZ

/-- what is raised: its class, its attribute, the attribute's value, the frame -/
abbrev DX := Addr → Str → D → Fr → Prop
abbrev DE := DX → Fr → (D → Fr → Prop) → Prop
abbrev DT := DX → Fr → (Bool → Fr → Prop) → Prop
abbrev DA := DX → Fr → (List D → Fr → Prop) → Prop
abbrev DO := DX → Fr → (Option Int → Fr → Prop) → Prop
abbrev DG := D → Fr → (Fr → Prop) → Prop
structure DEn where
  nx : Fr → Prop
  rt : D → Nat → Prop
  bk : Fr → Prop
  ct : Fr → Prop
abbrev DS := DX → DEn → Fr → Prop
structure Ct where
  R : Root
  E : XK
def LinkX (C : Ct) (x : DX) : Prop := ∀ (c : Addr) (f : Str) (d : D) (e : Fr) (hd : List (Addr × HO)) (ts : List D) (vs : List V) (σ : L2.St) (H : Hp) (a : Addr) (v : V),
  Rep C.R hd e (d :: ts) (v :: vs) σ H → H a = some (.xd [(f, v)]) → x c f d e → C.E (.ref c) (some a) H
section
variable (C : Ct)
def SimE (t : TE) (d : DE) : Prop := ∀ x, LinkX C x → ∀ (e : Fr) (hd : List (Addr × HO)) (ts : List D) (vs : List V) (σ : L2.St) (H : Hp) (Q : VK) (k : D → Fr → Prop), Rep C.R hd e ts vs σ H →
  d x e k → (∀ y e' v H', k y e' → Rep C.R hd e' (y :: ts) (v :: vs) σ H' → Q v H') → t σ H Q
def SimT (t : TT) (d : DT) : Prop := ∀ x, LinkX C x → ∀ (e : Fr) (hd : List (Addr × HO)) (ts : List D) (vs : List V) (σ : L2.St) (H : Hp) (Q : Bool → Hp → Prop) (k : Bool → Fr → Prop), Rep C.R hd e ts vs σ H →
  d x e k → (∀ b e' H', k b e' → Rep C.R hd e' ts vs σ H' → Q b H') → t σ H Q
def SimA (t : TA) (d : DA) : Prop := ∀ x, LinkX C x → ∀ (e : Fr) (hd : List (Addr × HO)) (ts : List D) (vs : List V) (σ : L2.St) (H : Hp) (Q : List V → Hp → Prop) (k : List D → Fr → Prop), Rep C.R hd e ts vs σ H →
  d x e k → (∀ ys e' us H', k ys e' → ys.length = us.length → Rep C.R hd e' (ys ++ ts) (us ++ vs) σ H' → Q us H') → t σ H Q
def SimO (t : TO) (d : DO) : Prop := ∀ x, LinkX C x → ∀ (e : Fr) (hd : List (Addr × HO)) (ts : List D) (vs : List V) (σ : L2.St) (H : Hp) (Q : Option Int → Hp → Prop) (k : Option Int → Fr → Prop), Rep C.R hd e ts vs σ H →
  d x e k → (∀ o e' H', k o e' → Rep C.R hd e' ts vs σ H' → Q o H') → t σ H Q
/-- a target is stored: the frame's slots change too -/
def SimG (ws : List Nat) (g : TG) (d : DG) : Prop := ∀ (y : D) (v : V) (e : Fr) (hd : List (Addr × HO)) (ts : List D) (vs : List V) (σ : L2.St) (H : Hp) (Q : L2.St → Hp → Prop) (k : Fr → Prop), Rep C.R hd e (y :: ts) (v :: vs) σ H →
  d y e k → (∀ e' σ' H', k e' → Rep C.R hd e' ts vs σ' H' → (∀ zs, (∀ i ∈ ws, i ∈ zs) → wipe σ' zs = wipe σ zs) → Q σ' H') → g v σ H Q
structure Link (hd : List (Addr × HO)) (ts : List D) (vs : List V) (D' : Ends) (d : DEn) : Prop where
  nx : ∀ e σ H, Rep C.R hd e ts vs σ H → d.nx e → D'.nx σ H
  rt : ∀ y v e σ H, Rep C.R hd e (y :: ts) (v :: vs) σ H → d.rt y e.n → D'.rt v H
  bk : ∀ e σ H, Rep C.R hd e ts vs σ H → d.bk e → D'.bk σ H
  ct : ∀ e σ H, Rep C.R hd e ts vs σ H → d.ct e → D'.ct σ H
def SimS (t : TS) (d : DS) : Prop := ∀ x, LinkX C x → ∀ (e : Fr) (hd : List (Addr × HO)) (ts : List D) (vs : List V) (σ : L2.St) (H : Hp) (D' : Ends) (k : DEn), Rep C.R hd e ts vs σ H → Link C hd ts vs D' k →
  d x k e → t D' σ H
/-- two values in, one out; new objects may be laid -/
def SimR (r : R2) (d : D → D → (D → Prop) → Prop) : Prop := ∀ (x y : D) (v w : V) (S H : Hp) (Q : VK) (k : D → Prop), Same S H → DAt C.R.K C.R.mo S x v → DAt C.R.K C.R.mo S y w →
  d x y k → (∀ z u S' H', k z → New S H S' H' → DAt C.R.K C.R.mo S' z u → Q u H') → r v w H Q
def SimU (r : V → Hp → VK → Prop) (d : D → (D → Prop) → Prop) : Prop := ∀ (x : D) (v : V) (S H : Hp) (Q : VK) (k : D → Prop), Same S H → DAt C.R.K C.R.mo S x v →
  d x k → (∀ z u S' H', k z → New S H S' H' → DAt C.R.K C.R.mo S' z u → Q u H') → r v H Q
def SimB (r : List V → Hp → VK → Prop) (d : List D → (D → Prop) → Prop) : Prop := ∀ (xs : List D) (vs : List V) (S H : Hp) (Q : VK) (k : D → Prop), Same S H → DsAt C.R.K C.R.mo S xs vs →
  d xs k → (∀ z u S' H', k z → New S H S' H' → DAt C.R.K C.R.mo S' z u → Q u H') → r vs H Q
def SimL (r : V → Option Int → Option Int → Hp → VK → Prop) (d : D → Option Int → Option Int → (D → Prop) → Prop) : Prop := ∀ (x : D) (v : V) (o p : Option Int) (S H : Hp) (Q : VK) (k : D → Prop), Same S H → DAt C.R.K C.R.mo S x v →
  d x o p k → (∀ z u S' H', k z → New S H S' H' → DAt C.R.K C.R.mo S' z u → Q u H') → r v o p H Q
end

/-! ### expressions -/
def dVar (i : Nat) : DE := fun _ e k => match e.g[i]? with
  | some (.d y) => k y e
  | some (.l ys) => k (.lst ys) { e with g := e.g.set i (.d (.lst ys)) }
  | some (.k ys) => k (.dic ys) { e with g := e.g.set i (.d (.dic ys)) }
  | _ => False
def dC (y : D) : DE := fun _ e k => k y e
def dOp (r : D → D → (D → Prop) → Prop) (a b : DE) : DE := fun x e k => a x e fun y e1 => b x e1 fun z e2 => r y z fun u => k u e2
def dUn (r : D → (D → Prop) → Prop) (a : DE) : DE := fun x e k => a x e fun y e1 => r y fun u => k u e1
def dNil : DA := fun _ e k => k [] e
def dCons (a : DE) (b : DA) : DA := fun x e k => a x e fun y e1 => b x e1 fun ys e2 => k (y :: ys) e2
def dCB (r : List D → (D → Prop) → Prop) (a : DA) : DE := fun x e k => a x e fun ys e1 => r ys fun u => k u e1
def dTup (a : DA) : DE := fun x e k => a x e fun ys e1 => ys.length ≤ 1000000 ∧ k (.tup ys) e1
def dLst (a : DA) : DE := fun x e k => a x e fun ys e1 => ys.length ≤ 1000000 ∧ k (.lst ys) e1
def isBl (k : Bool → Prop) : D → Prop
  | .bl b => k b
  | _ => False
def dB (a : DE) : DT := fun x e k => a x e fun y e1 => isBl (fun b => k b e1) y
def dAnd (t u : DT) : DT := fun x e k => t x e fun b e1 => if b = true then u x e1 k else k false e1
def dOr (t u : DT) : DT := fun x e k => t x e fun b e1 => if b = true then k true e1 else u x e1 k
def dNot (t : DT) : DT := fun x e k => t x e fun b e1 => k (!b) e1
def dAndV (a b : DE) : DE := fun x e k => a x e fun y e1 => isBl (fun c => if c = true then b x e1 k else k (.bl false) e1) y
def dOrV (a b : DE) : DE := fun x e k => a x e fun y e1 => isBl (fun c => if c = true then k (.bl true) e1 else b x e1 k) y
def dNotV (a : DE) : DE := fun x e k => a x e fun y e1 => isBl (fun c => k (.bl (!c)) e1) y
def dIf (t : DT) (a b : DE) : DE := fun x e k => t x e fun c e1 => if c = true then a x e1 k else b x e1 k
def dChain (r r' : D → D → (D → Prop) → Prop) (a b c : DE) : DE := fun x e k => a x e fun y e1 => b x e1 fun z e2 => r y z fun u => isBl (fun q => if q = true then c x e2 fun w e3 => r' z w fun u' => k u' e3 else k (.bl false) e2) u
def isInt (k : Int → Prop) : D → Prop
  | .int i => k i
  | _ => False
def dNoPart : DO := fun _ e k => k none e
def dPart (a : DE) : DO := fun x e k => a x e fun y e1 => isInt (fun i => k (some i) e1) y
def dSl (r : D → Option Int → Option Int → (D → Prop) → Prop) (a : DE) (l h : DO) : DE := fun x e k => a x e fun y e1 => l x e1 fun o e2 => h x e2 fun p e3 => r y o p fun u => k u e3
def dSeq (t u : DS) : DS := fun x k e => t x { k with nx := u x k } e
def dNext : DS := fun _ k e => k.nx e
def dBreak : DS := fun _ k e => k.bk e
def dCont : DS := fun _ k e => k.ct e
def dDrop (a : DE) : DS := fun x k e => a x e fun _ e1 => k.nx e1
def dRet (a : DE) : DS := fun x k e => a x e fun y e1 => k.rt y e1.n
def dRetN : DS := fun _ k e => k.rt .non e.n
def dIfS (t : DT) (a b : DS) : DS := fun x k e => t x e fun c e1 => if c = true then a x k e1 else b x k e1
def dAsg (a : DE) (g : DG) : DS := fun x k e => a x e fun y e1 => g y e1 k.nx
def dName (i : Nat) : DG := fun y e k => k { e with g := e.g.set i (.d y) }
def dPar (i j : Nat) (a : DA) : DS := fun x k e => a x e fun ys e1 => match ys with
  | [y, z] => k.nx { e1 with g := (e1.g.set i (.d y)).set j (.d z) }
  | _ => False
def dAug (i : Nat) (a : DE) (r : D → D → (D → Prop) → Prop) : DS := fun x k e => match e.g[i]? with
  | some (.d y) => a x e fun z e1 => r y z fun u => k.nx { e1 with g := e1.g.set i (.d u) }
  | _ => False

section
variable {C : Ct} {R : Root} {hd : List (Addr × HO)} {e : Fr} {ts : List D} {vs : List V} {σ : L2.St} {H S : Hp} {te ta tb tc : TE} {a b c : DE} {tt uu : TT} {dt du : DT} {A : TA} {dA : DA} {t u : TS} {p q : DS}

theorem getSlot {l : List Slo} {i j : Nat} {w : Slo} (h : (l.set i w)[j]? = some x) : (j = i ∧ x = w ∧ i < l.length) ∨ (j ≠ i ∧ l[j]? = some x) := by
  rw [List.getElem?_set] at h
  by_cases hij : i = j
  · subst hij
    rw [if_pos rfl] at h
    by_cases hl : i < l.length
    · rw [if_pos hl] at h
      exact .inl ⟨rfl, (Option.some.inj h).symm, hl⟩
    · rw [if_neg hl] at h
      cases h
  · rw [if_neg hij] at h
    exact .inr ⟨fun z => hij z.symm, h⟩
/-- a list or a dict of the frame's own becomes data -/
theorem RepS.freeze (r : RepS R hd e ts vs σ H S) {i : Nat} {w : Slo} (hw : e.g[i]? = some w) (y : D)
    (hy : (∃ ys, w = .l ys ∧ y = .lst ys) ∨ ∃ ys, w = .k ys ∧ y = .dic ys) :
    ∃ (v : V) (S' : Hp), σ[i]? = some (some v) ∧ RepS R hd { e with g := e.g.set i (.d y) } (y :: ts) (v :: vs) σ H S' := by
  have ow : w.own = true := by rcases hy with ⟨ys, rfl, _⟩ | ⟨ys, rfl, _⟩ <;> rfl
  have sl := r.slots i w hw
  obtain ⟨p, o, hp, ho, hD⟩ : ∃ (p : Addr) (o : HO), σ[i]? = some (some (.ref p)) ∧ H p = some o ∧ ∀ S', S' p = some o → Same S S' → DAt R.K R.mo S' y (.ref p) := by
    rcases hy with ⟨ys, rfl, rfl⟩ | ⟨ys, rfl, rfl⟩
    · obtain ⟨p, us, h1, h2, h3, h4⟩ := sl
      exact ⟨p, _, h1, h2, fun S' q s => .lst q (h3.mono s) h4⟩
    · obtain ⟨p, us, h1, h2, h3, h4⟩ := sl
      exact ⟨p, _, h1, h2, fun S' q s => .dic q (h3.mono s) h4⟩
  have own : Owns e.g σ i p := ⟨⟨w, hw, ow⟩, hp⟩
  obtain ⟨sp, h0p⟩ := r.own i p own
  have ss : Same S (upd S p o) := Same.new sp o
  have sub : ∀ j q, Owns (e.g.set i (.d y)) σ j q → Owns e.g σ j q ∧ q ≠ p := by
    rintro j q ⟨⟨w', h1, h2⟩, h3⟩
    rcases getSlot h1 with ⟨_, rfl, _⟩ | ⟨hji, h1⟩
    · cases h2
    · refine ⟨⟨⟨w', h1, h2⟩, h3⟩, fun z => hji ?_⟩
      subst z
      exact r.inj j i q ⟨⟨w', h1, h2⟩, h3⟩ own
  refine ⟨.ref p, upd S p o, hp, ?_⟩
  exact {
    keep := r.keep
    s0 := r.s0.trans ss
    old := fun a o' ha hn q => by
      rw [upd_ne (Root.fr_ne h0p ha hn)]; exact r.old a o' ha hn q
    sh := fun a u q => by
      by_cases e1 : a = p
      · subst e1; rw [upd_same] at q; rw [← q]; exact ho
      · rw [upd_ne e1] at q; exact r.sh a u q
    len := by show _ = (e.g.set i _).length; rw [List.length_set]; exact r.len
    slots := fun j w' h => by
      rcases getSlot h with ⟨rfl, rfl, _⟩ | ⟨_, h⟩
      · exact ⟨_, hp, hD _ upd_same ss⟩
      · exact (r.slots j w' h).mono ss fun _ _ _ _ z => z
    tmp := .cons (hD _ upd_same ss) (r.tmp.mono ss)
    own := fun j q h => by
      obtain ⟨h1, h2⟩ := sub j q h
      rw [upd_ne h2]
      exact r.own j q h1
    inj := fun j k q h1 h2 => r.inj j k q (sub j q h1).1 (sub k q h2).1
    hnt := r.hnt
    hid := fun q u h => by
      obtain ⟨h1, h2, h3, h4⟩ := r.hid q u h
      have nq : q ≠ p := fun z => h4 i (by rw [z]; exact own)
      exact ⟨h1, by rw [upd_ne nq]; exact h2, h3, fun j z => h4 j (sub j q z).1⟩
    st := fun hl m em => by
      obtain ⟨h0, h1, h2, h3, h4⟩ := r.st hl m em
      obtain ⟨om, hm1, hm2⟩ := h0
      have nm : m ≠ p := Root.fr_ne h0p hm1 hm2
      exact ⟨⟨om, hm1, hm2⟩, by rw [upd_ne nm]; exact h1, h2, fun c hc => by
        obtain ⟨o', ho'⟩ := h3 c hc
        exact ⟨o', ss _ _ ho'⟩, h4⟩
    tab := r.tab
    tb := fun h a ps q => by
      by_cases e1 : a = p
      · subst e1; rw [upd_same] at q; rw [Option.some.inj q] at ho; rcases hy with ⟨ys, rfl, _⟩ | ⟨ys, rfl, _⟩ <;> (obtain ⟨p', us, g1, g2, _⟩ := sl; rw [hp] at g1; cases g1; rw [g2] at ho; cases ho)
      · rw [upd_ne e1] at q; exact r.tb h a ps q }
theorem sim_var {i : Nat} : SimE C (tVar i) (dVar i) := by
  intro x _ e hd ts vs σ H Q k r h q
  obtain ⟨S, r⟩ := r
  unfold dVar at h
  cases hw : e.g[i]? with
  | none => rw [hw] at h; exact h.elim
  | some w =>
    rw [hw] at h
    cases w with
    | u => exact h.elim
    | d y =>
      obtain ⟨v, h1, h2⟩ := r.slots i _ hw
      exact ⟨v, h1, q _ _ v H h ⟨S, r.push h2⟩⟩
    | l ys =>
      obtain ⟨v, S', h1, h2⟩ := r.freeze hw _ (.inl ⟨ys, rfl, rfl⟩)
      exact ⟨v, h1, q _ _ v H h ⟨S', h2⟩⟩
    | k ys =>
      obtain ⟨v, S', h1, h2⟩ := r.freeze hw _ (.inr ⟨ys, rfl, rfl⟩)
      exact ⟨v, h1, q _ _ v H h ⟨S', h2⟩⟩
theorem sim_c {v : V} : SimE C (tC v) (dC (cD v)) := fun x _ e hd ts vs σ H Q k ⟨S, r⟩ h q => q _ _ v H h ⟨S, r.push (.c v)⟩
/-- a value of the module's -/
theorem sim_k {v : V} {y : D} (hy : ∀ S, DAt C.R.K C.R.mo S y v) : SimE C (tC v) (dC y) := fun x _ e hd ts vs σ H Q k ⟨S, r⟩ h q => q _ _ v H h ⟨S, r.push (hy S)⟩
theorem sim_op {r : R2} {d : D → D → (D → Prop) → Prop} (hr : SimR C r d) (h1 : SimE C ta a) (h2 : SimE C tb b) : SimE C (tOp r ta tb) (dOp d a b) := by
  intro x lx e hd ts vs σ H Q k rp h q
  refine h1 x lx e hd ts vs σ H _ _ rp h fun y e1 v H1 h1' r1 => h2 x lx e1 hd _ _ σ H1 _ _ r1 h1' fun z e2 w H2 h2' r2 => ?_
  obtain ⟨S, r2⟩ := r2
  cases r2.tmp with
  | cons c2 r' =>
    cases r' with
    | cons c1 r'' => exact hr y z v w S H2 Q _ r2.sh c1 c2 h2' fun u uv S' H' ku n du => q u e2 uv H' ku ⟨S', ((r2.grow n).temps (.cons du (r''.mono n.ss)))⟩
theorem sim_un {r : V → Hp → VK → Prop} {d : D → (D → Prop) → Prop} (hr : SimU C r d) (h1 : SimE C ta a) : SimE C (tUn r ta) (dUn d a) := by
  intro x lx e hd ts vs σ H Q k rp h q
  refine h1 x lx e hd ts vs σ H _ _ rp h fun y e1 v H1 h1' r1 => ?_
  obtain ⟨S, r2⟩ := r1
  cases r2.tmp with
  | cons c1 r'' => exact hr y v S H1 Q _ r2.sh c1 h1' fun u uv S' H' ku n du => q u e1 uv H' ku ⟨S', ((r2.grow n).temps (.cons du (r''.mono n.ss)))⟩
theorem sim_nil : SimA C tNil dNil := fun x _ e hd ts vs σ H Q k r h q => q [] e [] H h rfl r
theorem sim_cons (h1 : SimE C ta a) (h2 : SimA C A dA) : SimA C (tCons ta A) (dCons a dA) := by
  intro x lx e hd ts vs σ H Q k rp h q
  refine h1 x lx e hd ts vs σ H _ _ rp h fun y e1 v H1 h1' r1 => h2 x lx e1 hd _ _ σ H1 _ _ r1 h1' fun zs e2 ws H2 h2' hl r2 => ?_
  obtain ⟨S, r2⟩ := r2
  obtain ⟨t1, t2⟩ := DsAt.split hl r2.tmp
  cases t2 with
  | cons c1 r'' => exact q (y :: zs) e2 (v :: ws) H2 h2' (by simp [hl]) ⟨S, r2.temps (DsAt.append (.cons c1 t1) r'')⟩
theorem sim_cb {r : List V → Hp → VK → Prop} {d : List D → (D → Prop) → Prop} (hr : SimB C r d) (h1 : SimA C A dA) : SimE C (tCB r A) (dCB d dA) := by
  intro x lx e hd ts vs σ H Q k rp h q
  refine h1 x lx e hd ts vs σ H _ _ rp h fun ys e1 ws H1 h1' hl r1 => ?_
  obtain ⟨S, r1⟩ := r1
  obtain ⟨t1, t2⟩ := DsAt.split hl r1.tmp
  exact hr ys ws S H1 Q _ r1.sh t1 h1' fun u uv S' H' ku n du => q u e1 uv H' ku ⟨S', ((r1.grow n).temps (.cons du (t2.mono n.ss)))⟩
theorem line_of {n : Nat} (h : n ≤ 1000000) : n ≤ sizeLine := Nat.le_trans h (by decide)
theorem sim_tup (h1 : SimA C A dA) : SimE C (tTup A) (dTup dA) := by
  intro x lx e hd ts vs σ H Q k rp h q
  refine h1 x lx e hd ts vs σ H _ _ rp h fun ys e1 ws H1 h1' hl r1 => ?_
  obtain ⟨S, r1⟩ := r1
  obtain ⟨t1, t2⟩ := DsAt.split hl r1.tmp
  refine ⟨by rw [← hl]; exact line_of h1'.1, fun p hp => ?_⟩
  have n := New.one r1.sh hp (.tup ws)
  exact q _ e1 _ _ h1'.2 ⟨_, (r1.grow n).temps (.cons (.tup (sqT upd_same) (t1.mono n.ss) (line_of h1'.1)) (t2.mono n.ss))⟩
theorem sim_lst (h1 : SimA C A dA) : SimE C (tLst A) (dLst dA) := by
  intro x lx e hd ts vs σ H Q k rp h q
  refine h1 x lx e hd ts vs σ H _ _ rp h fun ys e1 ws H1 h1' hl r1 => ?_
  obtain ⟨S, r1⟩ := r1
  obtain ⟨t1, t2⟩ := DsAt.split hl r1.tmp
  refine ⟨by rw [← hl]; exact line_of h1'.1, fun p hp => ?_⟩
  have n := New.one r1.sh hp (.lst ws)
  exact q _ e1 _ _ h1'.2 ⟨_, (r1.grow n).temps (.cons (.lst upd_same (t1.mono n.ss) (line_of h1'.1)) (t2.mono n.ss))⟩
theorem DAt.isBl {K : PySem.W.Frag} {mo : Option Addr} {y : D} {v : V} {k : Bool → Prop} (h : DAt K mo S y v) (q : isBl k y) : ∃ b, v = .bl b ∧ y = .bl b ∧ k b := by
  cases h <;> first | exact q.elim | exact ⟨_, rfl, rfl, q⟩
theorem DAt.isInt {K : PySem.W.Frag} {mo : Option Addr} {y : D} {v : V} {k : Int → Prop} (h : DAt K mo S y v) (q : isInt k y) : ∃ b, v = .int b ∧ y = .int b ∧ k b := by
  cases h <;> first | exact q.elim | exact ⟨_, rfl, rfl, q⟩
theorem Rep.top {y : D} {v : V} (r : Rep C.R hd e (y :: ts) (v :: vs) σ H) : ∃ S, DAt C.R.K C.R.mo S y v := by
  obtain ⟨S, r⟩ := r
  cases r.tmp with
  | cons c _ => exact ⟨S, c⟩
theorem sim_b (h1 : SimE C ta a) : SimT C (tB ta) (dB a) := by
  intro x lx e hd ts vs σ H Q k rp h q
  refine h1 x lx e hd ts vs σ H _ _ rp h fun y e1 v H1 h1' r1 => ?_
  obtain ⟨S, d⟩ := Rep.top (C := C) r1
  obtain ⟨b, rfl, rfl, kb⟩ := d.isBl h1'
  exact ⟨b, rfl, q b e1 H1 kb r1.pop⟩
theorem sim_test (h1 : SimE C ta a) : SimT C (tTest ta) (dB a) := sim_b h1
theorem sim_and (h1 : SimT C tt dt) (h2 : SimT C uu du) : SimT C (tAnd tt uu) (dAnd dt du) := by
  intro x lx e hd ts vs σ H Q k rp h q
  refine h1 x lx e hd ts vs σ H _ _ rp h fun b e1 H1 h1' r1 => ?_
  cases b with
  | true => rw [if_pos rfl] at h1'; exact iteT (h2 x lx e1 hd ts vs σ H1 _ _ r1 h1' q)
  | false => rw [if_neg Bool.false_ne_true] at h1'; exact iteF (q _ _ _ h1' r1)
theorem sim_or (h1 : SimT C tt dt) (h2 : SimT C uu du) : SimT C (tOr tt uu) (dOr dt du) := by
  intro x lx e hd ts vs σ H Q k rp h q
  refine h1 x lx e hd ts vs σ H _ _ rp h fun b e1 H1 h1' r1 => ?_
  cases b with
  | true => rw [if_pos rfl] at h1'; exact iteT (q _ _ _ h1' r1)
  | false => rw [if_neg Bool.false_ne_true] at h1'; exact iteF (h2 x lx e1 hd ts vs σ H1 _ _ r1 h1' q)
theorem sim_not (h1 : SimT C tt dt) : SimT C (tNot tt) (dNot dt) := by
  intro x lx e hd ts vs σ H Q k rp h q
  exact h1 x lx e hd ts vs σ H _ _ rp h fun b e1 H1 h1' r1 => q _ _ _ h1' r1
theorem sim_andV (h1 : SimE C ta a) (h2 : SimE C tb b) : SimE C (tAndV ta tb) (dAndV a b) := by
  intro x lx e hd ts vs σ H Q k rp h q
  refine h1 x lx e hd ts vs σ H _ _ rp h fun y e1 v H1 h1' r1 => ?_
  obtain ⟨S, d⟩ := Rep.top (C := C) r1
  obtain ⟨b, rfl, rfl, kb⟩ := d.isBl h1'
  refine ⟨b, rfl, ?_⟩
  cases b with
  | true => rw [if_pos rfl] at kb; exact iteT (h2 x lx e1 hd ts vs σ H1 _ _ r1.pop kb q)
  | false =>
    rw [if_neg Bool.false_ne_true] at kb
    exact iteF (q _ _ _ _ kb r1)
theorem sim_orV (h1 : SimE C ta a) (h2 : SimE C tb b) : SimE C (tOrV ta tb) (dOrV a b) := by
  intro x lx e hd ts vs σ H Q k rp h q
  refine h1 x lx e hd ts vs σ H _ _ rp h fun y e1 v H1 h1' r1 => ?_
  obtain ⟨S, d⟩ := Rep.top (C := C) r1
  obtain ⟨b, rfl, rfl, kb⟩ := d.isBl h1'
  refine ⟨b, rfl, ?_⟩
  cases b with
  | true => rw [if_pos rfl] at kb; exact iteT (q _ _ _ _ kb r1)
  | false =>
    rw [if_neg Bool.false_ne_true] at kb
    exact iteF (h2 x lx e1 hd ts vs σ H1 _ _ r1.pop kb q)
theorem sim_notV (h1 : SimE C ta a) : SimE C (tNotV ta) (dNotV a) := by
  intro x lx e hd ts vs σ H Q k rp h q
  refine h1 x lx e hd ts vs σ H _ _ rp h fun y e1 v H1 h1' r1 => ?_
  obtain ⟨S, r1⟩ := r1
  cases r1.tmp with
  | cons d t =>
    obtain ⟨b, rfl, rfl, kb⟩ := d.isBl h1'
    exact ⟨b, rfl, q _ _ _ _ kb ⟨S, r1.temps (.cons (.bl _) t)⟩⟩
theorem sim_if (h0 : SimT C tt dt) (h1 : SimE C ta a) (h2 : SimE C tb b) : SimE C (tIf tt ta tb) (dIf dt a b) := by
  intro x lx e hd ts vs σ H Q k rp h q
  refine h0 x lx e hd ts vs σ H _ _ rp h fun c e1 H1 h1' r1 => ?_
  cases c with
  | true => rw [if_pos rfl] at h1'; exact iteT (h1 x lx e1 hd ts vs σ H1 _ _ r1 h1' q)
  | false => rw [if_neg Bool.false_ne_true] at h1'; exact iteF (h2 x lx e1 hd ts vs σ H1 _ _ r1 h1' q)
theorem sim_nopart : SimO C tNoPart dNoPart := fun x _ e hd ts vs σ H Q k r h q => q none e H h r
theorem sim_part (h1 : SimE C ta a) : SimO C (tPart ta) (dPart a) := by
  intro x lx e hd ts vs σ H Q k rp h q
  refine h1 x lx e hd ts vs σ H _ _ rp h fun y e1 v H1 h1' r1 => ?_
  obtain ⟨S, d⟩ := Rep.top (C := C) r1
  obtain ⟨b, rfl, rfl, kb⟩ := d.isInt h1'
  exact ⟨b, rfl, q _ _ _ kb r1.pop⟩
theorem sim_sl {r : V → Option Int → Option Int → Hp → VK → Prop} {d : D → Option Int → Option Int → (D → Prop) → Prop} {tl th : TO} {l h : DO} (hr : SimL C r d) (h1 : SimE C ta a) (h2 : SimO C tl l) (h3 : SimO C th h) : SimE C (tSl r ta tl th) (dSl d a l h) := by
  intro x lx e hd ts vs σ H Q k rp hh q
  refine h1 x lx e hd ts vs σ H _ _ rp hh fun y e1 v H1 h1' r1 => h2 x lx e1 hd _ _ σ H1 _ _ r1 h1' fun o e2 H2 h2' r2 => h3 x lx e2 hd _ _ σ H2 _ _ r2 h2' fun p e3 H3 h3' r3 => ?_
  obtain ⟨S, r3⟩ := r3
  cases r3.tmp with
  | cons c1 r'' => exact hr y v o p S H3 Q _ r3.sh c1 h3' fun u uv S' H' ku n du => q u e3 uv H' ku ⟨S', ((r3.grow n).temps (.cons du (r''.mono n.ss)))⟩
/-! ### statements -/
theorem sim_seq (h1 : SimS C t p) (h2 : SimS C u q) : SimS C (tSeq t u) (dSeq p q) := by
  intro x lx e hd ts vs σ H D' k rp L h
  refine h1 x lx e hd ts vs σ H _ _ rp ?_ h
  exact ⟨fun e1 σ1 H1 r1 z => h2 x lx e1 hd ts vs σ1 H1 D' k r1 L z, L.rt, L.bk, L.ct⟩
theorem sim_next : SimS C tNext dNext := fun x _ e hd ts vs σ H D' k rp L h => L.nx _ _ _ rp h
theorem sim_break : SimS C tBreak dBreak := fun x _ e hd ts vs σ H D' k rp L h => L.bk _ _ _ rp h
theorem sim_cont : SimS C tCont dCont := fun x _ e hd ts vs σ H D' k rp L h => L.ct _ _ _ rp h
theorem sim_drop (h1 : SimE C ta a) : SimS C (tDrop ta) (dDrop a) := fun x lx e hd ts vs σ H D' k rp L h => h1 x lx e hd ts vs σ H _ _ rp h fun y e1 v H1 z r1 => L.nx _ _ _ r1.pop z
theorem sim_ret (h1 : SimE C ta a) : SimS C (tRet ta) (dRet a) := fun x lx e hd ts vs σ H D' k rp L h => h1 x lx e hd ts vs σ H _ _ rp h fun y e1 v H1 z r1 => L.rt _ _ _ _ _ r1 z
theorem sim_retN : SimS C tRetN dRetN := fun x lx e hd ts vs σ H D' k ⟨S, rp⟩ L h => L.rt .non .non e σ H ⟨S, rp.push .non⟩ h
theorem sim_ifs (h0 : SimT C tt dt) (h1 : SimS C t p) (h2 : SimS C u q) : SimS C (tIfS tt t u) (dIfS dt p q) := by
  intro x lx e hd ts vs σ H D' k rp L h
  refine h0 x lx e hd ts vs σ H _ _ rp h fun c e1 H1 h1' r1 => ?_
  cases c with
  | true => rw [if_pos rfl] at h1'; exact iteT (h1 x lx e1 hd ts vs σ H1 _ _ r1 L h1')
  | false => rw [if_neg Bool.false_ne_true] at h1'; exact iteF (h2 x lx e1 hd ts vs σ H1 _ _ r1 L h1')
theorem sim_asg {ws : List Nat} {g : TG} {dg : DG} (h1 : SimE C ta a) (h2 : SimG C ws g dg) : SimS C (tAsg ta g) (dAsg a dg) := fun x lx e hd ts vs σ H D' k rp L h =>
  h1 x lx e hd ts vs σ H _ _ rp h fun y e1 v H1 z r1 => h2 y v e1 hd ts vs σ H1 _ _ r1 z fun e2 σ2 H2 z2 r2 _ => L.nx _ _ _ r2 z2
/-- a slot is stored -/
theorem RepS.set {y : D} {v : V} (r : RepS R hd e ts vs σ H S) (h : DAt R.K R.mo S y v) (i : Nat) : RepS R hd { e with g := e.g.set i (.d y) } ts vs (σ.set i (some v)) H S := by
  have sub : ∀ j q, Owns (e.g.set i (.d y)) (σ.set i (some v)) j q → Owns e.g σ j q := by
    rintro j q ⟨⟨w', h1, h2⟩, h3⟩
    rcases getSlot h1 with ⟨_, rfl, _⟩ | ⟨hji, h1⟩
    · cases h2
    · rw [List.getElem?_set, if_neg (fun z => hji z.symm)] at h3
      exact ⟨⟨w', h1, h2⟩, h3⟩
  exact { r with
    len := by show (σ.set i _).length = (e.g.set i _).length; rw [List.length_set, List.length_set]; exact r.len
    slots := fun j w' h' => by
      rcases getSlot h' with ⟨rfl, rfl, hl⟩ | ⟨hji, h'⟩
      · refine ⟨v, ?_, h⟩
        rw [List.getElem?_set, if_pos rfl, if_pos (by rw [r.len]; exact hl)]
      · rw [List.getElem?_set, if_neg (fun z => hji z.symm)]
        exact r.slots j w' h'
    own := fun j q h' => r.own j q (sub j q h')
    inj := fun j k q h1 h2 => r.inj j k q (sub j q h1) (sub k q h2)
    hid := fun q u h => by
      obtain ⟨h1, h2, h3, h4⟩ := r.hid q u h
      exact ⟨h1, h2, h3, fun j z => h4 j (sub j q z)⟩ }
theorem wipe_set {σ : L2.St} {i : Nat} {o : Option V} : ∀ {zs : List Nat}, i ∈ zs → wipe (σ.set i o) zs = wipe σ zs
  | z :: zs, h => by
    unfold wipe
    by_cases hz : i ∈ zs
    · rw [wipe_set hz]
    · obtain rfl : i = z := by
        rcases List.mem_cons.mp h with h | h
        · exact h
        · exact absurd h hz
      clear h
      have c : ∀ (zs : List Nat), i ∉ zs → ∀ τ : L2.St, wipe (τ.set i o) zs = (wipe τ zs).set i o := by
        intro zs
        induction zs with
        | nil => intro _ τ; rfl
        | cons y r ih =>
          intro h τ
          unfold wipe
          rw [ih (fun z => h (List.mem_cons_of_mem _ z)) τ, List.set_comm _ _ (fun z => h (by rw [z]; exact List.mem_cons_self))]
      rw [c zs hz σ, List.set_set]
theorem sim_name {i : Nat} : SimG C [i] (gName i) (dName i) := by
  intro y v e hd ts vs σ H Q k rp h q
  obtain ⟨S, r⟩ := rp
  cases r.tmp with
  | cons c t => exact q _ _ _ h ⟨S, (r.temps t).set c i⟩ fun zs hz => wipe_set (hz i (List.mem_singleton.mpr rfl))
theorem sim_par {i j : Nat} (h1 : SimA C A dA) : SimS C (tPar i j A) (dPar i j dA) := by
  intro x lx e hd ts vs σ H D' k rp L h
  refine h1 x lx e hd ts vs σ H _ _ rp h fun ys e1 ws H1 h1' hl r1 => ?_
  obtain ⟨S, r1⟩ := r1
  obtain ⟨t1, t2⟩ := DsAt.split hl r1.tmp
  match ys, ws, t1, h1' with
  | [y, z], [v, w], .cons c1 (.cons c2 .nil), h1' => exact ⟨v, w, rfl, L.nx _ _ _ ⟨S, ((r1.temps t2).set c1 i).set c2 j⟩ h1'⟩
theorem sim_aug {i : Nat} {r : R2} {d : D → D → (D → Prop) → Prop} (hr : SimR C r d) (h1 : SimE C ta a) : SimS C (tAug i ta r) (dAug i a d) := by
  intro x lx e hd ts vs σ H D' k rp L h
  unfold dAug at h
  cases hw : e.g[i]? with
  | none => rw [hw] at h; exact h.elim
  | some w =>
    rw [hw] at h
    cases w with
    | d y =>
      obtain ⟨S, rp⟩ := rp
      obtain ⟨v, e1, e2⟩ := rp.slots i _ hw
      refine ⟨v, e1, ?_⟩
      refine h1 x lx e hd _ _ σ H _ _ ⟨S, rp.push e2⟩ h fun z e1 w H1 h1' r1 => ?_
      obtain ⟨S, r1⟩ := r1
      cases r1.tmp with
      | cons c2 t =>
        cases t with
        | cons c1 t => exact hr y z v w S H1 _ _ r1.sh c1 c2 h1' fun u uv S' H' ku n du => L.nx _ _ _ ⟨S', ((r1.grow n).temps (t.mono n.ss)).set du i⟩ ku
    | _ => exact h.elim
end
end Pu

/-! # truth, targets, loops, comprehensions -/
namespace Pu
open PySem PySem.Spec PyProof.Rows L2 Gd RZ
def tru (k : Bool → Prop) : D → Prop
  | .non => k false
  | .bl b => k b
  | .int i => k (i != 0)
  | .str y => y.length ≤ 1000000 ∧ k ((y.length : Int) != 0)
  | .tup xs => k (!xs.isEmpty)
  | .lst xs => k (!xs.isEmpty)
  | .dic xs => k (!xs.isEmpty)
  | _ => False
def dTru (a : DE) : DT := fun x e k => a x e fun y e1 => tru (fun b => k b e1) y
def dTruVar (i : Nat) : DT := fun _ e k => match e.g[i]? with
  | some (.d y) => tru (fun b => k b e) y
  | some (.l ys) => k (!ys.isEmpty) e
  | some (.k ys) => k (!ys.isEmpty) e
  | _ => False
def wipeF (e : Fr) : List Nat → Fr
  | [] => e
  | i :: r => { wipeF e r with g := (wipeF e r).g.set i .u }
abbrev DI := DX → Fr → (List D → Fr → Prop) → Prop
def forL (g : DG) (b : (Fr → Prop) → Fr → Prop) : List D → (Fr → Prop) → Fr → Prop
  | [], nx, e => nx e
  | y :: r, nx, e => g y e fun e1 => b (forL g b r nx) e1
def dFor (i : DI) (g : DG) (b : DS) : DS := fun x k e => i x e fun items e1 => forL g (fun N e2 => b x { k with nx := N, ct := N, bk := k.nx } e2) items k.nx e1
def dWhile (t : DT) (b : DS) : DS := fun x k e => ∃ W : Nat → Fr → Prop, (∃ m, W m e) ∧ ∀ m e, W m e → t x e fun c e1 => if c = true then
  b x { k with nx := fun e' => ∃ m', m' < m ∧ W m' e', ct := fun e' => ∃ m', m' < m ∧ W m' e', bk := k.nx } e1 else k.nx e1
def dYes : DT := fun _ e k => k true e
/-- a comprehension's items, one by one -/
def lcL (x : DX) (g : DG) (t : DT) (a : DE) (ws : List Nat) : List D → Fr → (List D → Fr → Prop) → Prop
  | [], e, k => k [] e
  | y :: r, e, k => g y e fun e1 => t x e1 fun b e2 => if b = true then a x e2 fun z e3 => lcL x g t a ws r (wipeF e3 ws) fun zs e4 => k (z :: zs) e4 else lcL x g t a ws r (wipeF e2 ws) k
def dLc (i : DI) (g : DG) (t : DT) (a : DE) (ws : List Nat) : DE := fun x e k => i x e fun items e1 => lcL x g t a ws items (wipeF e1 ws) fun zs e2 => k (.lst zs) e2
def dTupG (gs : List D → Fr → (Fr → Prop) → Prop) : DG := fun y e k => match y with
  | .tup ys => gs ys e k
  | _ => False
abbrev DGs := List D → Fr → (Fr → Prop) → Prop
def dGNil : DGs := fun ys e k => match ys with
  | [] => k e
  | _ => False
def dGCons (g : DG) (gs : DGs) : DGs := fun ys e k => match ys with
  | y :: r => g y e fun e1 => gs r e1 k
  | _ => False
section
variable (C : Ct)
/-- what is walked, while the things on the stack stand -/
def WalkD (hs : List D) (us : List V) (J : It) (items : List D) : Prop := items.length ≤ sizeLine ∧ ∀ S H, Same S H → DsAt C.R.K C.R.mo S hs us → J.stop items.length H ∧
  ∀ i d, items[i]? = some d → J.go i H ∧ ∀ x H', J.yld i H x H' → ∃ S', New S H S' H' ∧ DAt C.R.K C.R.mo S' d x
def SimI (w : TI) (d : DI) : Prop := ∀ x, LinkX C x → ∀ (e : Fr) (hd : List (Addr × HO)) (ts : List D) (vs : List V) (σ : L2.St) (H : Hp) (Q : It → Hp → Prop) (k : List D → Fr → Prop), Rep C.R hd e ts vs σ H →
  d x e k → (∀ items e' J H' hs us, k items e' → hs.length = us.length → Rep C.R hd e' (hs ++ ts) (us ++ vs) σ H' → WalkD C hs us J items → Q J H') → w σ H Q
def SimGs (ws : List Nat) (g : TGs) (d : DGs) : Prop := ∀ (ys : List D) (us : List V) (e : Fr) (hd : List (Addr × HO)) (ts : List D) (vs : List V) (σ : L2.St) (H : Hp) (Q : L2.St → Hp → Prop) (k : Fr → Prop), ys.length = us.length → Rep C.R hd e (ys ++ ts) (us ++ vs) σ H →
  d ys e k → (∀ e' σ' H', k e' → Rep C.R hd e' ts vs σ' H' → (∀ zs, (∀ i ∈ ws, i ∈ zs) → wipe σ' zs = wipe σ zs) → Q σ' H') → g us σ H Q
end
section
variable {C : Ct} {R : Root} {hd : List (Addr × HO)} {e : Fr} {ts : List D} {vs : List V} {σ : L2.St} {H S : Hp} {te ta tb tc : TE} {a b c : DE} {tt uu : TT} {dt du : DT} {A : TA} {dA : DA} {t u : TS} {p q : DS}
theorem sim_chain {r r' : R2} {d d' : D → D → (D → Prop) → Prop} (hr : SimR C r d) (hr' : SimR C r' d') (h1 : SimE C ta a) (h2 : SimE C tb b) (h3 : SimE C tc c) : SimE C (tChain r r' ta tb tc) (dChain d d' a b c) := by
  intro x lx e hd ts vs σ H Q k rp h q
  refine h1 x lx e hd ts vs σ H _ _ rp h fun y e1 v H1 h1' r1 => h2 x lx e1 hd _ _ σ H1 _ _ r1 h1' fun z e2 w H2 h2' r2 => ?_
  obtain ⟨S, r2⟩ := r2
  cases r2.tmp with
  | cons c2 r' =>
    cases r' with
    | cons c1 r'' =>
      refine hr y z v w S H2 _ _ r2.sh c1 c2 h2' fun u uv S' H' ku n dv => ?_
      obtain ⟨b, rfl, rfl, kb⟩ := dv.isBl ku
      refine ⟨b, rfl, ?_⟩
      have r3 := (r2.grow n)
      cases b with
      | true =>
        rw [if_pos rfl] at kb
        refine iteT (h3 x lx e2 hd _ _ σ H' _ _ ⟨S', r3⟩ kb fun w3 e3 w3v H3 k3 r4 => ?_)
        obtain ⟨S4, r4⟩ := r4
        cases r4.tmp with
        | cons d3 t3 =>
          cases t3 with
          | cons d2 t2 =>
            cases t2 with
            | cons d1 t1 => exact hr' z w3 w w3v S4 H3 Q _ r4.sh d2 d3 k3 fun u' uv' S5 H5 ku' n' du' => q u' e3 uv' H5 ku' ⟨S5, (r4.grow n').temps (.cons du' (t1.mono n'.ss))⟩
      | false =>
        rw [if_neg Bool.false_ne_true] at kb
        exact iteF (q _ _ _ _ kb ⟨S', r3.temps (.cons (.bl _) (r''.mono n.ss))⟩)
theorem DAt.tru {C : Ct} {y : D} {v : V} {k : Bool → Prop} (sh : Same S H) (h : DAt C.R.K C.R.mo S y v) (q : tru k y) : ∃ b, TruV C.R.K v H b ∧ k b := by
  have em : ∀ {xs : List D} {us : List V}, DsAt C.R.K C.R.mo S xs us → xs.isEmpty = us.isEmpty := fun h => by cases h <;> rfl
  have ek : ∀ {xs : List (Key × D)} {us : List (Key × V)}, KvAt C.R.K C.R.mo S xs us → xs.isEmpty = us.isEmpty := fun h => by cases h <;> rfl
  cases h with
  | non => exact ⟨_, rfl, q⟩
  | bl b => exact ⟨_, rfl, q⟩
  | int i => exact ⟨_, rfl, q⟩
  | str y => exact ⟨_, ⟨line_of q.1, rfl⟩, q.2⟩
  | tup h1 h2 h3 => exact ⟨_, .inr (.inl ⟨_, sh.seqT h1, rfl⟩), by rw [← em h2]; exact q⟩
  | lst h1 h2 h3 => exact ⟨_, .inl ⟨_, sqL (sh _ _ h1), rfl⟩, by rw [← em h2]; exact q⟩
  | dic h1 h2 h3 => exact ⟨_, .inr (.inr ⟨_, sh _ _ h1, rfl⟩), by rw [← ek h2]; exact q⟩
  | st h => exact q.elim
  | raw v => exact q.elim
theorem sim_tru {K : PySem.W.Frag} (hK : C.R.K = K) (h1 : SimE C ta a) : SimT C (fun σ H Q => ta σ H fun x H' => ∃ k, TruV K x H' k ∧ Q k H') (dTru a) := by
  subst hK
  intro x lx e hd ts vs σ H Q k rp h q
  refine h1 x lx e hd ts vs σ H _ _ rp h fun y e1 v H1 h1' r1 => ?_
  obtain ⟨S, r2⟩ := id r1
  cases r2.tmp with
  | cons c1 _ =>
    obtain ⟨b, tb, kb⟩ := c1.tru r2.sh h1'
    exact ⟨b, tb, q _ _ _ kb r1.pop⟩
theorem sim_truVar {K : PySem.W.Frag} {i : Nat} (hK : C.R.K = K) : SimT C (fun σ H Q => tVar i σ H fun x H' => ∃ k, TruV K x H' k ∧ Q k H') (dTruVar i) := by
  subst hK
  intro x lx e hd ts vs σ H Q k rp h q
  unfold dTruVar at h
  cases hw : e.g[i]? with
  | none => rw [hw] at h; exact h.elim
  | some w =>
    rw [hw] at h
    obtain ⟨S, r⟩ := id rp
    have sl := r.slots i w hw
    cases w with
    | u => exact h.elim
    | d y =>
      obtain ⟨v, h1, h2⟩ := sl
      obtain ⟨b, tb, kb⟩ := h2.tru r.sh h
      exact ⟨v, h1, b, tb, q _ _ _ kb rp⟩
    | l ys =>
      obtain ⟨p, us, h1, h2, h3, _⟩ := sl
      exact ⟨_, h1, _, .inl ⟨_, sqL h2, rfl⟩, q _ _ _ (by cases h3 <;> exact h) rp⟩
    | k ys =>
      obtain ⟨p, us, h1, h2, h3, _⟩ := sl
      exact ⟨_, h1, _, .inr (.inr ⟨_, h2, rfl⟩), q _ _ _ (by cases h3 <;> exact h) rp⟩
/-! ### targets -/
theorem sim_gnil : SimGs C [] gNil dGNil := by
  intro ys us e hd ts vs σ H Q k hl rp h q
  cases ys with
  | nil =>
    cases us with
    | nil => exact ⟨rfl, q _ _ _ h rp fun _ _ => rfl⟩
    | cons _ _ => simp at hl
  | cons _ _ => exact h.elim
theorem sim_gcons {ws ws' : List Nat} {g : TG} {dg : DG} {gs : TGs} {dgs : DGs} (h1 : SimG C ws g dg) (h2 : SimGs C ws' gs dgs) : SimGs C (ws ++ ws') (gCons g gs) (dGCons dg dgs) := by
  intro ys us e hd ts vs σ H Q k hl rp h q
  cases ys with
  | nil => exact h.elim
  | cons y r =>
    cases us with
    | nil => simp at hl
    | cons v us =>
      refine ⟨v, us, rfl, h1 y v e hd _ _ σ H _ _ rp h fun e1 σ1 H1 k1 r1 w1 => ?_⟩
      exact h2 r us e1 hd ts vs σ1 H1 Q k (by simpa using hl) r1 k1 fun e2 σ2 H2 k2 r2 w2 => q e2 σ2 H2 k2 r2 fun zs hz => (w2 zs fun i hi => hz i (List.mem_append_right _ hi)).trans (w1 zs fun i hi => hz i (List.mem_append_left _ hi))
theorem sim_gtup {K : PySem.W.Frag} {n : Nat} {ws : List Nat} {gs : TGs} {dgs : DGs} (hK : C.R.K = K) (h1 : SimGs C ws gs dgs) (hn : ∀ ys e k, dgs ys e k → ys.length = n) : SimG C ws (gTup K n gs) (dTupG dgs) := by
  subst hK
  intro y v e hd ts vs σ H Q k rp h q
  obtain ⟨S, r⟩ := id rp
  cases r.tmp with
  | cons c t =>
    cases y with
    | tup ys =>
      cases c with
      | @tup p xs us a1 a2 a3 =>
        have h : dgs ys e k := h
        refine ⟨p, us, rfl, r.sh.seqT a1, by rw [← a2.length]; exact hn _ _ _ h, ?_⟩
        exact h1 ys us e hd ts vs σ H Q k a2.length ⟨S, r.temps (a2.append t)⟩ h q
    | _ => exact h.elim
theorem gnil_len {ys : List D} {e : Fr} {k : Fr → Prop} (h : dGNil ys e k) : ys.length = 0 := by
  cases ys with
  | nil => rfl
  | cons _ _ => exact h.elim
end
end Pu

namespace Pu
open PySem PySem.Spec PyProof.Rows L2 Gd RZ
/-- a target's store comes to its end -/
def Rch (g : DG) : Prop := ∀ y e k, g y e k → ∃ e1, k e1
def Rchs (gs : DGs) (n : Nat) : Prop := ∀ ys e k, gs ys e k → ys.length = n ∧ ∃ e1, k e1
theorem rch_name {i : Nat} : Rch (dName i) := fun y e k h => ⟨_, h⟩
theorem rchs_nil : Rchs dGNil 0 := fun ys e k h => by
  cases ys with
  | nil => exact ⟨rfl, e, h⟩
  | cons _ _ => exact h.elim
theorem rchs_cons {g : DG} {gs : DGs} {n : Nat} (h1 : Rch g) (h2 : Rchs gs n) : Rchs (dGCons g gs) (n + 1) := fun ys e k h => by
  cases ys with
  | nil => exact h.elim
  | cons y r =>
    obtain ⟨e1, q⟩ := h1 y e _ h
    obtain ⟨q1, q2⟩ := h2 r e1 k q
    exact ⟨by rw [List.length_cons, q1], q2⟩
theorem rch_tup {gs : DGs} {n : Nat} (h : Rchs gs n) : Rch (dTupG gs) := fun y e k q => by
  cases y with
  | tup ys => exact (h ys e k q).2
  | _ => exact q.elim
section
variable {C : Ct} {R : Root} {hd : List (Addr × HO)} {e : Fr} {ts : List D} {vs : List V} {σ : L2.St} {H S : Hp} {te ta tb tc : TE} {a b c : DE} {tt uu : TT} {dt du : DT} {A : TA} {dA : DA} {t u : TS} {p q : DS}
theorem sim_gtupN {K : PySem.W.Frag} {n : Nat} {ws : List Nat} {gs : TGs} {dgs : DGs} (hK : C.R.K = K) (h1 : SimGs C ws gs dgs) (hn : Rchs dgs n) : SimG C ws (gTup K n gs) (dTupG dgs) :=
  sim_gtup hK h1 fun ys e k h => (hn ys e k h).1
theorem Rep.drop {hs : List D} {us : List V} (hl : hs.length = us.length) (r : Rep R hd e (hs ++ ts) (us ++ vs) σ H) : Rep R hd e ts vs σ H := by
  obtain ⟨S, r⟩ := r
  exact ⟨S, r.temps (DsAt.split hl r.tmp).2⟩
theorem Rep.drop1 {hs : List D} {us : List V} {y : D} {v : V} (hl : hs.length = us.length) (r : Rep R hd e (y :: (hs ++ ts)) (v :: (us ++ vs)) σ H) : Rep R hd e (y :: ts) (v :: vs) σ H := by
  obtain ⟨S, r⟩ := r
  cases r.tmp with
  | cons c t => exact ⟨S, r.temps (.cons c (DsAt.split hl t).2)⟩
theorem sim_for {w : TI} {i : DI} {ws : List Nat} {g : TG} {dg : DG} (hi : SimI C w i) (hg : SimG C ws g dg) (hb : SimS C t p) : SimS C (tFor w g t) (dFor i dg p) := by
  intro x lx e hd ts vs σ H D' k rp L h
  refine hi x lx e hd ts vs σ H _ _ rp h fun items e1 J H1 hs us h1' hl r1 ⟨_, wk⟩ => ?_
  refine ⟨fun j m σ' H' => ∃ e', Rep C.R hd e' (hs ++ ts) (us ++ vs) σ' H' ∧ forL dg (fun N e2 => p x { k with nx := N, ct := N, bk := k.nx } e2) (items.drop j) k.nx e' ∧ j ≤ items.length ∧ m = items.length - j,
    ⟨_, e1, r1, h1', Nat.zero_le _, rfl⟩, ?_⟩
  rintro j m σ' H' ⟨e', r', f', hj, rfl⟩
  obtain ⟨S, rs⟩ := id r'
  obtain ⟨st, it⟩ := wk S H' rs.sh (DsAt.split hl rs.tmp).1
  by_cases hlt : j < items.length
  · have e2 : items[j]? = some items[j] := List.getElem?_eq_getElem hlt
    obtain ⟨go, yl⟩ := it j _ e2
    refine .inr ⟨go, fun σ2 H2 => ∃ e3, Rep C.R hd e3 (hs ++ ts) (us ++ vs) σ2 H2 ∧ forL dg (fun N e2 => p x { k with nx := N, ct := N, bk := k.nx } e2) (items.drop (j + 1)) k.nx e3,
      fun σ2 H2 ⟨e3, r3, f3⟩ => ⟨items.length - (j + 1), by omega, e3, r3, f3, hlt, rfl⟩, fun y H2 hy => ?_⟩
    obtain ⟨S2, nw, dy⟩ := yl y H2 hy
    rw [List.drop_eq_getElem_cons hlt] at f'
    refine hg _ y e' hd _ _ σ' H2 _ _ ⟨S2, (rs.grow nw).push dy⟩ f' fun e3 σ3 H3 k3 r3 _ => ?_
    refine hb x lx e3 hd _ _ σ3 H3 _ _ r3 ?_ k3
    exact ⟨fun e4 σ4 H4 r4 z => ⟨e4, r4, z⟩, fun y v e4 σ4 H4 r4 z => L.rt _ _ _ _ _ (r4.drop1 hl) z, fun e4 σ4 H4 r4 z => L.nx _ _ _ (r4.drop hl) z, fun e4 σ4 H4 r4 z => ⟨e4, r4, z⟩⟩
  · obtain rfl : j = items.length := by omega
    rw [List.drop_length] at f'
    exact .inl ⟨st, L.nx _ _ _ (r'.drop hl) f'⟩
theorem sim_while (ht : SimT C tt dt) (hb : SimS C t p) : SimS C (tWhile tt t) (dWhile dt p) := by
  intro x lx e hd ts vs σ H D' k rp L h
  obtain ⟨W, ⟨m0, w0⟩, turn⟩ := h
  refine ⟨fun m σ' H' => ∃ e', Rep C.R hd e' ts vs σ' H' ∧ W m e', ⟨m0, e, rp, w0⟩, ?_⟩
  rintro m σ' H' ⟨e', r', w'⟩
  refine ht x lx e' hd ts vs σ' H' _ _ r' (turn m e' w') fun c e1 H1 h1' r1 => ?_
  cases c with
  | true =>
    rw [if_pos rfl] at h1'
    refine iteT ⟨fun σ2 H2 => ∃ e2, Rep C.R hd e2 ts vs σ2 H2 ∧ ∃ m', m' < m ∧ W m' e2, fun σ2 H2 ⟨e2, r2, m', hm, w2⟩ => ⟨m', hm, e2, r2, w2⟩, ?_⟩
    refine hb x lx e1 hd ts vs σ' H1 _ _ r1 ?_ h1'
    exact ⟨fun e4 σ4 H4 r4 z => ⟨e4, r4, z⟩, L.rt, fun e4 σ4 H4 r4 z => L.nx _ _ _ r4 z, fun e4 σ4 H4 r4 z => ⟨e4, r4, z⟩⟩
  | false => rw [if_neg Bool.false_ne_true] at h1'; exact iteF (L.nx _ _ _ r1 h1')
theorem sim_yes : SimT C tYes dYes := fun x _ e hd ts vs σ H Q k r h q => q _ _ _ h r
/-! ### comprehensions -/
theorem wipeF_n (e : Fr) : ∀ ws : List Nat, (wipeF e ws).n = e.n
  | [] => rfl
  | _ :: r => wipeF_n e r
theorem wipeF_len (e : Fr) : ∀ ws : List Nat, (wipeF e ws).g.length = e.g.length
  | [] => rfl
  | _ :: r => by
    show ((wipeF e r).g.set _ _).length = _
    rw [List.length_set]
    exact wipeF_len e r
theorem wipeF_get (e : Fr) {j : Nat} {w : Slo} : ∀ {ws : List Nat}, (wipeF e ws).g[j]? = some w → w = .u ∨ (j ∉ ws ∧ e.g[j]? = some w)
  | [], h => .inr ⟨fun z => (nomatch z), h⟩
  | i :: r, h => by
    rcases getSlot (l := (wipeF e r).g) (i := i) h with ⟨_, rfl, _⟩ | ⟨hji, h⟩
    · exact .inl rfl
    · rcases wipeF_get e h with h | ⟨h1, h2⟩
      · exact .inl h
      · refine .inr ⟨fun z => ?_, h2⟩
        rcases List.mem_cons.mp z with z | z
        · exact hji z
        · exact h1 z
/-- slots that are forgotten may hold anything -/
theorem RepS.forget (r : RepS R hd e ts vs σ H S) {ws : List Nat} {τ : L2.St} (hl : τ.length = σ.length) (h : ∀ j, j ∉ ws → τ[j]? = σ[j]?) : RepS R hd (wipeF e ws) ts vs τ H S := by
  have sub : ∀ j q, Owns (wipeF e ws).g τ j q → Owns e.g σ j q := by
    rintro j q ⟨⟨w', h1, h2⟩, h3⟩
    rcases wipeF_get e h1 with rfl | ⟨hj, h1⟩
    · cases h2
    · rw [h j hj] at h3
      exact ⟨⟨w', h1, h2⟩, h3⟩
  exact { r with
    len := by rw [wipeF_len, hl]; exact r.len
    slots := fun j w' h' => by
      rcases wipeF_get e h' with rfl | ⟨hj, h'⟩
      · trivial
      · rw [h j hj]; exact r.slots j w' h'
    own := fun j q h' => r.own j q (sub j q h')
    inj := fun j k q h1 h2 => r.inj j k q (sub j q h1) (sub k q h2)
    hid := fun q u h' => by
      obtain ⟨h1, h2, h3, h4⟩ := r.hid q u h'
      exact ⟨h1, h2, h3, fun j z => h4 j (sub j q z)⟩
    st := fun hl m em => by rw [wipeF_n]; exact r.st hl m em }
theorem Rep.forget (r : Rep R hd e ts vs σ H) {ws : List Nat} {τ : L2.St} (hl : τ.length = σ.length) (h : ∀ j, j ∉ ws → τ[j]? = σ[j]?) : Rep R hd (wipeF e ws) ts vs τ H := by
  obtain ⟨S, r⟩ := r
  exact ⟨S, r.forget hl h⟩
theorem wipe_get {σ : L2.St} {j : Nat} : ∀ {ws : List Nat}, j ∉ ws → (wipe σ ws)[j]? = σ[j]?
  | [], _ => rfl
  | i :: r, h => by
    unfold wipe
    rw [List.getElem?_set, if_neg (fun z => h (by rw [z]; exact List.mem_cons_self))]
    exact wipe_get fun z => h (List.mem_cons_of_mem _ z)
theorem Rep.wiped (r : Rep R hd e ts vs σ H) (ws : List Nat) : Rep R hd (wipeF e ws) ts vs (wipe σ ws) H := r.forget (wipe_length σ ws) fun j hj => wipe_get hj
/-- a new object that nothing leads to -/
theorem RepS.hide (r : RepS R hd e ts vs σ H S) {p : Addr} (hp : H p = none) (o : HO) (ho : (∀ ps, o ≠ .tbl ps) ∧ ∀ fs, o ≠ .xd fs := by constructor <;> (intro _ z; cases z)) : RepS R ((p, o) :: hd) e ts vs σ (upd H p o) S := by
  have h0 : R.fr p := fun o ho hn => by
    by_cases hl : R.live = true → some p ≠ R.mo
    · rw [r.keep p o hl hn ho] at hp; cases hp
    · have hl' : R.live = true ∧ some p = R.mo := by
        by_cases h1 : R.live = true
        · exact ⟨h1, by by_cases h2 : some p = R.mo; exact h2; exact absurd (fun _ => h2) hl⟩
        · exact absurd (fun x => absurd x h1) hl
      obtain ⟨_, _, hm, _⟩ := r.st hl'.1 p hl'.2.symm
      obtain ⟨l, s, p', c, cs, a1, _⟩ := hm
      rw [a1] at hp; cases hp
  have sp : S p = none := by
    cases z : S p with
    | none => rfl
    | some u => rw [r.sh p u z] at hp; cases hp
  have hh : Same H (upd H p o) := Same.new hp o
  have nown : ∀ i, ¬ Owns e.g σ i p := fun i z => r.there z hp
  exact { r with
    keep := fun a u h hn q => hh a u (r.keep a u h hn q)
    sh := r.sh.trans hh
    slots := fun i w h => (r.slots i w h).mono (Same.refl _) fun q u _ _ => hh q u
    hnt := fun q u h => by
      rcases List.mem_cons.mp h with h | h
      · cases h; exact ho
      · exact r.hnt q u h
    hid := fun q u h => by
      rcases List.mem_cons.mp h with h | h
      · cases h
        exact ⟨upd_same, sp, h0, nown⟩
      · obtain ⟨h1, h2, h3, h4⟩ := r.hid q u h
        exact ⟨hh _ _ h1, h2, h3, h4⟩
    st := fun hl m em => by
      obtain ⟨h0, h1, h2, h3, h4⟩ := r.st hl m em
      exact ⟨h0, h1, h2.same hh, fun c hc => h3 c (Cel.back hh h2 hc), fun c hc => (h4 c hc).same hh⟩
    tab := fun hl p hp => (r.tab hl p hp).ext hh }
theorem tabs_upd {P p : Addr} {q : Str} {o : HO} (t : LamX.TabS H P q) (hnt : ∀ ps, H p ≠ some (.tbl ps)) (hx : ∀ φ, H p ≠ some (.ext φ)) : LamX.TabS (upd H p o) P q := by
  obtain ⟨ps, h1, h2, h3⟩ := t
  refine ⟨ps, by rw [upd_ne (fun z => hnt ps (by rw [← z]; exact h1))]; exact h1, h2, fun pos cv hc => ?_⟩
  obtain ⟨c, h4, h5⟩ := h3 pos cv hc
  exact ⟨c, h4, by rw [upd_ne (fun z => hx _ (by rw [← z]; exact h5))]; exact h5⟩
/-- what is hidden changes -/
theorem RepS.turn (r : RepS R hd e ts vs σ H S) {p : Addr} (hp : S p = none) (h0 : R.fr p) (hnt : (∀ ps, H p ≠ some (.tbl ps)) ∧ ∀ φ, H p ≠ some (.ext φ)) (ow : ∀ i, ¬ Owns e.g σ i p) {hd' : List (Addr × HO)} (hs : ∀ q u, (q, u) ∈ hd' → (q, u) ∈ hd ∧ q ≠ p) {o : HO} (ho : (∀ ps, o ≠ .tbl ps) ∧ ∀ fs, o ≠ .xd fs := by constructor <;> (intro _ z; cases z)) : RepS R ((p, o) :: hd') e ts vs σ (upd H p o) S := by
  have mu : ∀ a u, a ≠ p → H a = some u → (upd H p o) a = some u := fun a u h q => by rw [upd_ne h]; exact q
  exact { r with
    keep := fun a u h hn q => mu a u (Root.fr_ne h0 q hn) (r.keep a u h hn q)
    sh := fun a u q => mu a u (fun z => by rw [z, hp] at q; cases q) (r.sh a u q)
    slots := fun i w h => (r.slots i w h).mono (Same.refl _) fun q u ow' e1 h' => mu q u (fun z => ow i ⟨⟨w, h, ow'⟩, by rw [e1, z]⟩) h'
    hnt := fun q u h => by
      rcases List.mem_cons.mp h with h | h
      · cases h; exact ho
      · exact r.hnt q u (hs q u h).1
    hid := fun q u h => by
      rcases List.mem_cons.mp h with h | h
      · cases h
        exact ⟨upd_same, hp, h0, ow⟩
      · obtain ⟨hm, hn⟩ := hs q u h
        obtain ⟨h1, h2, h3, h4⟩ := r.hid q u hm
        exact ⟨mu q u hn h1, h2, h3, h4⟩
    st := fun hl m em => by
      obtain ⟨h0', h1, h2, h3, h4⟩ := r.st hl m em
      obtain ⟨om, hm1, hm2⟩ := h0'
      have nm : m ≠ p := Root.fr_ne h0 hm1 hm2
      have cel : ∀ c, Cel (upd H p o) m c → Cel H m c := by
        rintro c ⟨l, s, q, e⟩
        rw [upd_ne nm] at e
        exact ⟨l, s, q, e⟩
      have cel' : ∀ c, Cel H m c → Cel (upd H p o) m c := by
        rintro c ⟨l, s, q, e⟩
        exact ⟨l, s, q, by rw [upd_ne nm]; exact e⟩
      obtain ⟨c, hc, _⟩ := h2.cel
      obtain ⟨o', ho'⟩ := h3 c hc
      have nc : p ≠ c := fun z => by rw [← z, hp] at ho'; cases ho'
      exact ⟨⟨om, hm1, hm2⟩, h1, h2.upd hc (fun z => nm z.symm) nc _, fun c hc => h3 c (cel c hc), fun c hc => cel' c (h4 c hc)⟩
    tab := fun hl q hq => tabs_upd (r.tab hl q hq) hnt.1 hnt.2 }
/-- what was hidden may be read -/
theorem RepS.show (r : RepS R hd e ts vs σ H S) {p : Addr} {o : HO} (hp : S p = none) (h0 : R.fr p) (hH : H p = some o) (hnt : ∀ ps, o ≠ .tbl ps) (ow : ∀ i, ¬ Owns e.g σ i p) {hd' : List (Addr × HO)} (hs : ∀ q u, (q, u) ∈ hd' → (q, u) ∈ hd ∧ q ≠ p) :
    Same S (upd S p o) ∧ RepS R hd' e ts vs σ H (upd S p o) := by
  have ss : Same S (upd S p o) := Same.new hp o
  refine ⟨ss, { r with
    s0 := r.s0.trans ss
    old := fun a o' ha hn q => by
      rw [upd_ne (Root.fr_ne h0 ha hn)]; exact r.old a o' ha hn q
    tb := fun h a ps q => by
      by_cases e1 : a = p
      · subst e1; rw [upd_same] at q; exact hnt ps (Option.some.inj q)
      · rw [upd_ne e1] at q; exact r.tb h a ps q
    sh := fun a u q => by
      by_cases e1 : a = p
      · subst e1; rw [upd_same] at q; rw [← q]; exact hH
      · rw [upd_ne e1] at q; exact r.sh a u q
    slots := fun i w h => (r.slots i w h).mono ss fun _ _ _ _ z => z
    tmp := r.tmp.mono ss
    own := fun j q h => by
      have nq : q ≠ p := fun z => ow j (by rw [← z]; exact h)
      rw [upd_ne nq]; exact r.own j q h
    hnt := fun q u h => r.hnt q u (hs q u h).1
    hid := fun q u h => by
      obtain ⟨hm, hn⟩ := hs q u h
      obtain ⟨h1, h2, h3, h4⟩ := r.hid q u hm
      exact ⟨h1, by rw [upd_ne hn]; exact h2, h3, h4⟩
    st := fun hl m em => by
      obtain ⟨h0', h1, h2, h3, h4⟩ := r.st hl m em
      obtain ⟨om, hm1, hm2⟩ := h0'
      have nm : m ≠ p := Root.fr_ne h0 hm1 hm2
      exact ⟨⟨om, hm1, hm2⟩, by rw [upd_ne nm]; exact h1, h2, fun c hc => by
        obtain ⟨o', ho'⟩ := h3 c hc
        exact ⟨o', ss _ _ ho'⟩, h4⟩ }⟩
theorem lcL_len {x : DX} {g : DG} {t : DT} {a : DE} {ws : List Nat} {Z : Fr → List D → Fr → Prop} (items : List D) : ∀ (acc : List D) (e : Fr) (k : List D → Fr → Prop), lcL x g t a ws items e k → True := fun _ _ _ _ => trivial
/-- the reading of a comprehension: the list at D within grows -/
theorem lc_run {J : It} {items hs : List D} {us : List V} {x : DX} (lx : LinkX C x) {ws : List Nat} {zs : List Nat} {g : TG} {dg : DG} (wk : WalkD C hs us J items) (hl : hs.length = us.length)
    (hz : ∀ i ∈ zs, i ∈ ws) (hg : SimG C zs g dg) (ht : SimT C tt dt) (ha : SimE C ta a) {Q : VK} {k : List D → Fr → Prop} {p : Addr} {H1 : Hp} (hp : H1 p = none)
    (rp : Rep C.R hd e (hs ++ ts) (us ++ vs) σ H1) (h : lcL x dg dt a ws items (wipeF e ws) k)
    (q : ∀ ys e' H' S acc, k ys e' → DsAt C.R.K C.R.mo S ys acc → H' p = some (.lst acc) → S p = none → ys.length ≤ items.length → RepS C.R ((p, .lst acc) :: hd) e' (hs ++ ts) (us ++ vs) (wipe σ ws) H' S → Q (.ref p) H') :
    ∃ W : Nat → Nat → Hp → Prop, (∃ m, W 0 m (upd H1 p (.lst []))) ∧ ∀ i m H, W i m H →
      (J.stop i H ∧ Q (.ref p) H) ∨ (J.go i H ∧ ∃ Nx : Hp → Prop, (∀ H', Nx H' → ∃ m', m' < m ∧ W (i + 1) m' H') ∧ ∀ y H', J.yld i H y H' → g y (wipe σ ws) H' fun σ2 H2 => wipe σ2 ws = wipe σ ws ∧ tt σ2 H2 fun b H3 =>
        if b = true then ta σ2 H3 fun y H4 => ∃ acc, H4 p = some (.lst acc) ∧ acc.length < sizeLine ∧ Nx (upd H4 p (.lst (acc ++ [y]))) else Nx H3) := by
  have np : ∀ q u, (q, u) ∈ hd → q ≠ p := fun q u hq z => by
    obtain ⟨S, r⟩ := id rp
    have := (r.hid q u hq).1
    rw [z, hp] at this
    cases this
  let Wt : Nat → Hp → Prop := fun j H' => ∃ (e' : Fr) (S : Hp) (ys : List D) (acc : List V), lcL x dg dt a ws (items.drop j) e' (fun zs e2 => k (ys ++ zs) e2) ∧ ys.length ≤ j ∧ ys.length = acc.length ∧
    RepS C.R ((p, .lst acc) :: hd) e' (ys ++ (hs ++ ts)) (acc ++ (us ++ vs)) (wipe σ ws) H' S
  refine ⟨fun j m H' => j ≤ items.length ∧ m = items.length - j ∧ Wt j H', ⟨_, Nat.zero_le _, rfl, ?_⟩, ?_⟩
  · obtain ⟨S, r⟩ := rp.wiped ws
    exact ⟨_, S, [], [], h, Nat.zero_le _, rfl, r.hide hp _⟩
  rintro j m H' ⟨hj, rfl, e', S, ys, acc, f', hy, hyl, rs⟩
  obtain ⟨t1, t2⟩ := DsAt.split hyl rs.tmp
  obtain ⟨t3, t4⟩ := DsAt.split hl t2
  obtain ⟨st, it⟩ := wk.2 S H' rs.sh t3
  obtain ⟨i1, i2, i3, i4⟩ := rs.hid p _ List.mem_cons_self
  by_cases hlt : j < items.length
  · have e2 : items[j]? = some items[j] := List.getElem?_eq_getElem hlt
    obtain ⟨go, yl⟩ := it j _ e2
    refine .inr ⟨go, Wt (j + 1), fun H2 w2 => ⟨_, by omega, hlt, rfl, w2⟩, fun y H2 hy2 => ?_⟩
    obtain ⟨S2, nw, dy⟩ := yl y H2 hy2
    rw [List.drop_eq_getElem_cons hlt] at f'
    refine hg _ y e' _ _ _ _ H2 _ _ ⟨S2, (rs.grow nw).push dy⟩ f' fun e3 σ3 H3 k3 r3 w3 => ⟨(w3 ws hz).trans ?_, ?_⟩
    · have ww : ∀ zs : List Nat, wipe (wipe σ zs) zs = wipe σ zs := by
        intro zs
        have c : ∀ (as bs : List Nat), (∀ i ∈ as, i ∈ bs) → wipe (wipe σ as) bs = wipe σ bs := by
          intro as
          induction as with
          | nil => intro bs _; rfl
          | cons i r ih =>
            intro bs hb
            show wipe ((wipe σ r).set i none) bs = _
            rw [wipe_set (hb i List.mem_cons_self)]
            exact ih bs fun z hz => hb z (List.mem_cons_of_mem _ hz)
        exact c zs zs fun _ z => z
      exact ww ws
    have w3' : wipe σ3 ws = wipe σ ws := by
      have := w3 ws hz
      rw [this]
      have c : ∀ (as bs : List Nat), (∀ i ∈ as, i ∈ bs) → wipe (wipe σ as) bs = wipe σ bs := by
        intro as
        induction as with
        | nil => intro bs _; rfl
        | cons i r ih =>
          intro bs hb
          show wipe ((wipe σ r).set i none) bs = _
          rw [wipe_set (hb i List.mem_cons_self)]
          exact ih bs fun z hz => hb z (List.mem_cons_of_mem _ hz)
      exact c ws ws fun _ z => z
    refine ht x lx e3 _ _ _ σ3 H3 _ _ r3 k3 fun c e4 H4 k4 r4 => ?_
    have back : ∀ {e5 : Fr} {ts5 : List D} {vs5 : List V} {H5 : Hp} {hd5 : List (Addr × HO)}, Rep C.R hd5 e5 ts5 vs5 σ3 H5 → Rep C.R hd5 (wipeF e5 ws) ts5 vs5 (wipe σ ws) H5 := fun r5 => by
      have := r5.wiped ws
      rw [w3'] at this
      exact this
    cases c with
    | true =>
      rw [if_pos rfl] at k4
      refine iteT (ha x lx e4 _ _ _ σ3 H4 _ _ r4 k4 fun z e5 v H5 k5 r5 => ?_)
      obtain ⟨S5, r5⟩ := back r5
      obtain ⟨j1, j2, j3, j4⟩ := r5.hid p _ List.mem_cons_self
      refine ⟨acc, j1, ?_, ?_⟩
      · have := wk.1
        omega
      cases r5.tmp with
      | cons dz tz =>
        obtain ⟨t5, t6⟩ := DsAt.split hyl tz
        have r6 := (r5.temps ((t5.append (.cons dz .nil)).append t6)).turn (p := p) (o := .lst (acc ++ [v])) j2 j3 (by rw [j1]; exact ⟨fun _ z => (nomatch z), fun _ z => (nomatch z)⟩) j4 (hd' := hd) fun q u hq => ⟨List.mem_cons_of_mem _ hq, fun z => ?_⟩
        · refine ⟨_, S5, ys ++ [z], acc ++ [v], ?_, by simp; omega, by simp [hyl], r6⟩
          have := k5
          simp only [List.append_assoc, List.singleton_append] at this ⊢
          exact this
        · exact np q u hq z
    | false =>
      rw [if_neg Bool.false_ne_true] at k4
      obtain ⟨S5, r5⟩ := back r4
      exact iteF ⟨_, S5, ys, acc, k4, by omega, hyl, r5⟩
  · obtain rfl : j = items.length := by omega
    rw [List.drop_length] at f'
    refine .inl ⟨st, ?_⟩
    have f' : k (ys ++ []) e' := f'
    rw [List.append_nil] at f'
    exact q ys e' H' S acc f' t1 i1 i2 hy (rs.temps t2)
end
end Pu

namespace Pu
open PySem PySem.Spec PyProof.Rows L2 Gd RZ
/-! ### new lists, for a slot of one's own or as data -/
abbrev DF := DX → Fr → (List D → Fr → Prop) → Prop
def dFr (a : DF) : DE := fun x e k => a x e fun ys e1 => k (.lst ys) e1
def dAsgO (i : Nat) (a : DF) : DS := fun x k e => a x e fun ys e1 => k.nx { e1 with g := e1.g.set i (.l ys) }
def fLst (a : DA) : DF := fun x e k => a x e fun ys e1 => ys.length ≤ 1000000 ∧ k ys e1
def fLc (i : DI) (g : DG) (t : DT) (a : DE) (ws : List Nat) : DF := fun x e k => i x e fun items e1 => lcL x g t a ws items (wipeF e1 ws) fun zs e2 => k zs (wipeF e2 ws)
def fOp (r : D → D → (List D → Prop) → Prop) (a b : DE) : DF := fun x e k => a x e fun y e1 => b x e1 fun z e2 => r y z fun u => k u e2
def fCB (r : List D → (List D → Prop) → Prop) (a : DA) : DF := fun x e k => a x e fun ys e1 => r ys fun u => k u e1
def fSl (r : D → Option Int → Option Int → (List D → Prop) → Prop) (a : DE) (l h : DO) : DF := fun x e k => a x e fun y e1 => l x e1 fun o e2 => h x e2 fun p e3 => r y o p fun u => k u e3
section
variable (C : Ct)
def SimF (t : TE) (d : DF) : Prop := ∀ x, LinkX C x → ∀ (e : Fr) (hd : List (Addr × HO)) (ts : List D) (vs : List V) (σ : L2.St) (H : Hp) (Q : VK) (k : List D → Fr → Prop), Rep C.R hd e ts vs σ H →
  d x e k → (∀ ys e' p acc H' S, k ys e' → ys.length ≤ sizeLine → DsAt C.R.K C.R.mo S ys acc → (∀ q u, (q, u) ∈ hd → q ≠ p) → RepS C.R ((p, .lst acc) :: hd) e' ts vs σ H' S → Q (.ref p) H') → t σ H Q
def SimRF (r : R2) (d : D → D → (List D → Prop) → Prop) : Prop := ∀ (x y : D) (v w : V) (S H : Hp) (Q : VK) (k : List D → Prop), Same S H → DAt C.R.K C.R.mo S x v → DAt C.R.K C.R.mo S y w →
  d x y k → (∀ ys acc p, k ys → ys.length ≤ sizeLine → DsAt C.R.K C.R.mo S ys acc → H p = none → Q (.ref p) (upd H p (.lst acc))) → r v w H Q
def SimBF (r : List V → Hp → VK → Prop) (d : List D → (List D → Prop) → Prop) : Prop := ∀ (xs : List D) (vs : List V) (S H : Hp) (Q : VK) (k : List D → Prop), Same S H → DsAt C.R.K C.R.mo S xs vs →
  d xs k → (∀ ys acc p, k ys → ys.length ≤ sizeLine → DsAt C.R.K C.R.mo S ys acc → H p = none → Q (.ref p) (upd H p (.lst acc))) → r vs H Q
def SimLF (r : V → Option Int → Option Int → Hp → VK → Prop) (d : D → Option Int → Option Int → (List D → Prop) → Prop) : Prop := ∀ (x : D) (v : V) (o p : Option Int) (S H : Hp) (Q : VK) (k : List D → Prop), Same S H → DAt C.R.K C.R.mo S x v →
  d x o p k → (∀ ys acc p, k ys → ys.length ≤ sizeLine → DsAt C.R.K C.R.mo S ys acc → H p = none → Q (.ref p) (upd H p (.lst acc))) → r v o p H Q
end
section
variable {C : Ct} {R : Root} {hd : List (Addr × HO)} {e : Fr} {ts : List D} {vs : List V} {σ : L2.St} {H S : Hp} {te ta tb tc : TE} {a b c : DE} {f : DF} {tt uu : TT} {dt du : DT} {A : TA} {dA : DA} {t u : TS} {p q : DS}
theorem sim_fr (h1 : SimF C ta f) : SimE C ta (dFr f) := by
  intro x lx e hd ts vs σ H Q k rp h q
  refine h1 x lx e hd ts vs σ H _ _ rp h fun ys e1 p acc H1 S k1 hl ds np rs => ?_
  obtain ⟨i1, i2, i3, i4⟩ := rs.hid p _ List.mem_cons_self
  obtain ⟨ss, r2⟩ := rs.show (hd' := hd) i2 i3 i1 (fun _ z => (nomatch z)) i4 fun q u hq => ⟨List.mem_cons_of_mem _ hq, np q u hq⟩
  exact q _ _ _ _ k1 ⟨_, r2.push (.lst upd_same (ds.mono ss) hl)⟩
/-- a hidden list becomes a slot's own -/
theorem RepS.adopt {p : Addr} {o : HO} {w : Slo} (r : RepS R ((p, o) :: hd) e ts vs σ H S) (np : ∀ q u, (q, u) ∈ hd → q ≠ p) (ow : w.own = true) (i : Nat) (hs : SlotAt R.K R.mo S H w (some (some (.ref p)))) :
    RepS R hd { e with g := e.g.set i w } ts vs (σ.set i (some (.ref p))) H S := by
  obtain ⟨i1, i2, i3, i4⟩ := r.hid p _ List.mem_cons_self
  have sub : ∀ j q, Owns (e.g.set i w) (σ.set i (some (.ref p))) j q → (j = i ∧ q = p) ∨ (j ≠ i ∧ Owns e.g σ j q) := by
    rintro j q ⟨⟨w', h1, h2⟩, h3⟩
    rcases getSlot h1 with ⟨rfl, rfl, hl⟩ | ⟨hji, h1⟩
    · rw [List.getElem?_set, if_pos rfl, if_pos (by rw [r.len]; exact hl)] at h3
      cases h3
      exact .inl ⟨rfl, rfl⟩
    · rw [List.getElem?_set, if_neg (fun z => hji z.symm)] at h3
      exact .inr ⟨hji, ⟨⟨w', h1, h2⟩, h3⟩⟩
  exact { r with
    len := by show (σ.set i _).length = (e.g.set i _).length; rw [List.length_set, List.length_set]; exact r.len
    slots := fun j w' h' => by
      rcases getSlot h' with ⟨rfl, rfl, hl⟩ | ⟨hji, h'⟩
      · rw [List.getElem?_set, if_pos rfl, if_pos (by rw [r.len]; exact hl)]
        exact hs
      · rw [List.getElem?_set, if_neg (fun z => hji z.symm)]
        exact r.slots j w' h'
    own := fun j q h' => by
      rcases sub j q h' with ⟨_, rfl⟩ | ⟨_, h'⟩
      · exact ⟨i2, i3⟩
      · exact r.own j q h'
    inj := fun j k q h1 h2 => by
      rcases sub j q h1 with ⟨ej, eq⟩ | ⟨_, g1⟩
      · rcases sub k q h2 with ⟨ek, _⟩ | ⟨_, g2⟩
        · rw [ej, ek]
        · exact absurd g2 (by rw [eq]; exact i4 _)
      · rcases sub k q h2 with ⟨_, eq⟩ | ⟨_, g2⟩
        · exact absurd g1 (by rw [eq]; exact i4 _)
        · exact r.inj j k q g1 g2
    hnt := fun q u h' => r.hnt q u (List.mem_cons_of_mem _ h')
    hid := fun q u h' => by
      obtain ⟨h1, h2, h3, h4⟩ := r.hid q u (List.mem_cons_of_mem _ h')
      refine ⟨h1, h2, h3, fun j z => ?_⟩
      rcases sub j q z with ⟨_, e1⟩ | ⟨_, z⟩
      · exact np q u h' e1
      · exact h4 j z }
theorem sim_asgO {i : Nat} (h1 : SimF C ta f) : SimS C (tAsg ta (gName i)) (dAsgO i f) := by
  intro x lx e hd ts vs σ H D' k rp L h
  refine h1 x lx e hd ts vs σ H _ _ rp h fun ys e1 p acc H1 S k1 hl ds np rs => ?_
  obtain ⟨i1, _⟩ := rs.hid p _ List.mem_cons_self
  exact L.nx _ _ _ ⟨S, rs.adopt (w := .l ys) np rfl i ⟨p, acc, rfl, i1, ds, hl⟩⟩ k1
theorem new_hid {p : Addr} (r : RepS R hd e ts vs σ H S) (hp : H p = none) : ∀ q u, (q, u) ∈ hd → q ≠ p := fun q u hq z => by
  have := (r.hid q u hq).1
  rw [z, hp] at this
  cases this
theorem simf_lst (h1 : SimA C A dA) : SimF C (tLst A) (fLst dA) := by
  intro x lx e hd ts vs σ H Q k rp h q
  refine h1 x lx e hd ts vs σ H _ _ rp h fun ys e1 ws H1 h1' hl r1 => ?_
  obtain ⟨S, r1⟩ := r1
  obtain ⟨t1, t2⟩ := DsAt.split hl r1.tmp
  exact ⟨by rw [← hl]; exact line_of h1'.1, fun p hp => q ys e1 p ws _ S h1'.2 (line_of h1'.1) t1 (new_hid r1 hp) ((r1.temps t2).hide hp _)⟩
theorem simf_lc {w : TI} {i : DI} {zs ws : List Nat} {g : TG} {dg : DG} (hz : ∀ i ∈ zs, i ∈ ws) (hi : SimI C w i) (hg : SimG C zs g dg) (ht : SimT C tt dt) (ha : SimE C ta a) :
    SimF C (tLc w g tt ta ws) (fLc i dg dt a ws) := by
  intro x lx e hd ts vs σ H Q k rp h q
  refine hi x lx e hd ts vs σ H _ _ rp h fun items e1 J H1 hs us h1' hl r1 wk p hp => ?_
  refine lc_run lx wk hl hz hg ht ha hp r1 h1' fun ys e2 H2 S acc k2 ds hH sp hn rs => ?_
  have rs2 := rs.temps (DsAt.split hl rs.tmp).2
  have np := new_hid (Classical.choose_spec r1) hp
  refine q ys (wipeF e2 ws) p acc H2 S k2 (Nat.le_trans hn wk.1) ds np ?_
  exact rs2.forget (by rw [wipe_length]) fun j hj => (wipe_get hj).symm
theorem simf_op {r : R2} {d : D → D → (List D → Prop) → Prop} (hr : SimRF C r d) (h1 : SimE C ta a) (h2 : SimE C tb b) : SimF C (tOp r ta tb) (fOp d a b) := by
  intro x lx e hd ts vs σ H Q k rp h q
  refine h1 x lx e hd ts vs σ H _ _ rp h fun y e1 v H1 h1' r1 => h2 x lx e1 hd _ _ σ H1 _ _ r1 h1' fun z e2 w H2 h2' r2 => ?_
  obtain ⟨S, r2⟩ := r2
  cases r2.tmp with
  | cons c2 r' =>
    cases r' with
    | cons c1 r'' => exact hr y z v w S H2 Q _ r2.sh c1 c2 h2' fun ys acc p ku hl ds hp => q ys e2 p acc _ S ku hl ds (new_hid r2 hp) ((r2.temps r'').hide hp _)
theorem simf_cb {r : List V → Hp → VK → Prop} {d : List D → (List D → Prop) → Prop} (hr : SimBF C r d) (h1 : SimA C A dA) : SimF C (tCB r A) (fCB d dA) := by
  intro x lx e hd ts vs σ H Q k rp h q
  refine h1 x lx e hd ts vs σ H _ _ rp h fun ys e1 ws H1 h1' hl r1 => ?_
  obtain ⟨S, r1⟩ := r1
  obtain ⟨t1, t2⟩ := DsAt.split hl r1.tmp
  exact hr ys ws S H1 Q _ r1.sh t1 h1' fun zs acc p ku hl ds hp => q zs e1 p acc _ S ku hl ds (new_hid r1 hp) ((r1.temps t2).hide hp _)
theorem simf_sl {r : V → Option Int → Option Int → Hp → VK → Prop} {d : D → Option Int → Option Int → (List D → Prop) → Prop} {tl th : TO} {l h : DO} (hr : SimLF C r d) (h1 : SimE C ta a) (h2 : SimO C tl l) (h3 : SimO C th h) : SimF C (tSl r ta tl th) (fSl d a l h) := by
  intro x lx e hd ts vs σ H Q k rp hh q
  refine h1 x lx e hd ts vs σ H _ _ rp hh fun y e1 v H1 h1' r1 => h2 x lx e1 hd _ _ σ H1 _ _ r1 h1' fun o e2 H2 h2' r2 => h3 x lx e2 hd _ _ σ H2 _ _ r2 h2' fun p e3 H3 h3' r3 => ?_
  obtain ⟨S, r3⟩ := r3
  cases r3.tmp with
  | cons c1 r'' => exact hr y v o p S H3 Q _ r3.sh c1 h3' fun zs acc p ku hl ds hp => q zs e3 p acc _ S ku hl ds (new_hid r3 hp) ((r3.temps r'').hide hp _)

/-! ### what stands in a slot of one's own changes -/
def dAppend (i : Nat) (a : DE) : DE := fun x e k => match e.g[i]? with
  | some (.l _) => a x e fun y e1 => match e1.g[i]? with
    | some (.l ys) => ys.length ≤ 1000000 ∧ k .non { e1 with g := e1.g.set i (.l (ys ++ [y])) }
    | _ => False
  | _ => False
def dPop (i : Nat) : DE := fun _ e k => match e.g[i]? with
  | some (.l ys) => ∃ zs y, ys = zs ++ [y] ∧ k y { e with g := e.g.set i (.l zs) }
  | _ => False
/-- the slot's own object at p is replaced -/
theorem RepS.own_put {i : Nat} {w w' : Slo} {p : Addr} {o : HO} (r : RepS R hd e ts vs σ H S) (hw : e.g[i]? = some w) (ow : w.own = true) (hp : σ[i]? = some (some (.ref p))) (ow' : w'.own = true)
    (hs : ∀ H', H' p = some o → SlotAt R.K R.mo S H' w' (some (some (.ref p)))) : RepS R hd { e with g := e.g.set i w' } ts vs σ (upd H p o) S := by
  have own : Owns e.g σ i p := ⟨⟨w, hw, ow⟩, hp⟩
  obtain ⟨sp, h0⟩ := r.own i p own
  have mu : ∀ a u, a ≠ p → H a = some u → (upd H p o) a = some u := fun a u h q => by rw [upd_ne h]; exact q
  have hil : i < e.g.length := (List.getElem?_eq_some_iff.mp hw).1
  have sub : ∀ j q, Owns (e.g.set i w') σ j q → Owns e.g σ j q := by
    rintro j q ⟨⟨w2, h1, h2⟩, h3⟩
    rcases getSlot h1 with ⟨rfl, rfl, hl⟩ | ⟨hji, h1⟩
    · exact ⟨⟨w, hw, ow⟩, h3⟩
    · exact ⟨⟨w2, h1, h2⟩, h3⟩
  exact { r with
    keep := fun a u h hn q => mu a u (Root.fr_ne h0 q hn) (r.keep a u h hn q)
    sh := fun a u q => mu a u (fun z => by rw [z, sp] at q; cases q) (r.sh a u q)
    len := by show σ.length = (e.g.set i _).length; rw [List.length_set]; exact r.len
    slots := fun j w2 h => by
      rcases getSlot h with ⟨rfl, rfl, _⟩ | ⟨hji, h⟩
      · rw [hp]; exact hs _ upd_same
      · exact (r.slots j w2 h).mono (Same.refl _) fun q u ow2 e1 h' => mu q u (fun z => hji (r.inj j i p ⟨⟨w2, h, ow2⟩, by rw [e1, z]⟩ own)) h'
    own := fun j q h' => r.own j q (sub j q h')
    inj := fun j k q h1 h2 => r.inj j k q (sub j q h1) (sub k q h2)
    hid := fun q u h => by
      obtain ⟨h1, h2, h3, h4⟩ := r.hid q u h
      exact ⟨mu q u (fun z => h4 i (by rw [z]; exact own)) h1, h2, h3, fun j z => h4 j (sub j q z)⟩
    st := fun hl m em => by
      obtain ⟨h0', h1, h2, h3, h4⟩ := r.st hl m em
      obtain ⟨om, hm1, hm2⟩ := h0'
      have nm : m ≠ p := Root.fr_ne h0 hm1 hm2
      have cel : ∀ c, Cel (upd H p o) m c → Cel H m c := by
        rintro c ⟨l, s, q, e⟩
        rw [upd_ne nm] at e
        exact ⟨l, s, q, e⟩
      have cel' : ∀ c, Cel H m c → Cel (upd H p o) m c := by
        rintro c ⟨l, s, q, e⟩
        exact ⟨l, s, q, by rw [upd_ne nm]; exact e⟩
      obtain ⟨c, hc, _⟩ := h2.cel
      obtain ⟨o', ho'⟩ := h3 c hc
      have nc : p ≠ c := fun z => by rw [← z, sp] at ho'; cases ho'
      exact ⟨⟨om, hm1, hm2⟩, h1, h2.upd hc (fun z => nm z.symm) nc _, fun c hc => h3 c (cel c hc), fun c hc => cel' c (h4 c hc)⟩
    tab := fun hl q hq => by
      have sl := r.slots i w hw
      rw [hp] at sl
      have nt : (∀ ps, H p ≠ some (.tbl ps)) ∧ ∀ φ, H p ≠ some (.ext φ) := by
        cases w with
        | u => cases ow
        | d x => cases ow
        | l xs => obtain ⟨p', us, g1, g2, _⟩ := sl; cases g1; rw [g2]; exact ⟨fun _ z => (nomatch z), fun _ z => (nomatch z)⟩
        | k xs => obtain ⟨p', us, g1, g2, _⟩ := sl; cases g1; rw [g2]; exact ⟨fun _ z => (nomatch z), fun _ z => (nomatch z)⟩
      exact tabs_upd (r.tab hl q hq) nt.1 nt.2 }
theorem sim_append {K : PySem.W.Frag} {i : Nat} (h1 : SimE C ta a) : SimE C (tBM K "list" rAppend (tVar i) (tCons ta tNil)) (dAppend i a) := by
  intro x lx e hd ts vs σ H Q k rp h q
  unfold dAppend at h
  split at h
  · rename_i ys0 hw
    obtain ⟨S, r⟩ := id rp
    obtain ⟨p, us, e1, e2, e3, e4⟩ := r.slots i _ hw
    refine ⟨_, e1, .inl ⟨rfl, _, sqL e2⟩, ?_⟩
    refine h1 x lx e hd ts vs σ H _ _ rp h fun y e1' v H1 h1' r1 => ?_
    split at h1'
    · rename_i ys hw1
      obtain ⟨S1, r1⟩ := r1
      obtain ⟨p1, us1, f1, f2, f3, f4⟩ := r1.slots i _ hw1
      rw [e1] at f1
      cases f1
      cases r1.tmp with
      | cons dv t =>
        have hl := f3.length
        have hz := h1'.1
        refine ⟨p, us1, v, rfl, rfl, f2, ?_, q _ _ _ _ h1'.2 ⟨S1, ((r1.temps t).own_put (w' := .l (ys ++ [y])) hw1 rfl e1 rfl fun H' h' => ⟨p, _, rfl, h', f3.append (.cons dv .nil), ?_⟩).push .non⟩⟩
        · rw [sizeLine_eq]; omega
        · rw [List.length_append, sizeLine_eq]
          show ys.length + 1 ≤ _
          omega
    · exact h1'.elim
  · exact h.elim
theorem sim_pop {K : PySem.W.Frag} {i : Nat} : SimE C (tBM0 K "list" rPop (tVar i)) (dPop i) := by
  intro x lx e hd ts vs σ H Q k rp h q
  unfold dPop at h
  split at h
  · rename_i ys hw
    obtain ⟨zs, y, rfl, h⟩ := h
    obtain ⟨S, r⟩ := rp
    obtain ⟨p, us, e1, e2, e3, e4⟩ := r.slots i _ hw
    obtain ⟨us', v, rfl⟩ : ∃ us' v, us = us' ++ [v] := by
      have hl := e3.length
      rw [List.length_append] at hl
      have hne : us ≠ [] := fun z => by rw [z] at hl; simp at hl
      exact ⟨us.dropLast, us.getLast hne, (List.dropLast_concat_getLast hne).symm⟩
    have hl : zs.length = us'.length := by
      have := e3.length
      simpa using this
    obtain ⟨d1, d2⟩ := DsAt.split hl e3
    cases d2 with
    | cons dv _ =>
      refine ⟨_, e1, .inl ⟨rfl, _, sqL e2⟩, p, _, v, rfl, rfl, e2, ?_, ?_⟩
      · rw [List.length_append, List.length_singleton, Nat.add_sub_cancel, List.getElem?_append_right (Nat.le_refl _), Nat.sub_self]
        rfl
      · rw [List.dropLast_concat]
        refine q _ _ _ _ h ⟨S, (r.own_put (w' := .l zs) hw rfl e1 rfl fun H' h' => ⟨p, _, rfl, h', d1, ?_⟩).push dv⟩
        rw [List.length_append] at e4
        exact Nat.le_trans (Nat.le_add_right _ _) e4
  · exact h.elim
end
end Pu

namespace Pu
open PySem PySem.Spec PyProof.Rows L2 Gd RZ
/-! ### promises over data -/
abbrev SpP := List D → (D → Prop) → (Addr → Str → D → Prop) → Prop
def spPu (K : PySem.W.Frag) (d : SpP) : Sp := fun vs H Q E => ∃ (S : Hp) (mo : Option Addr) (ds : List D) (k : D → Prop) (kx : Addr → Str → D → Prop), Same S H ∧ DsAt K mo S ds vs ∧ d ds k kx ∧
  (∀ y v H' S', k y → New S H S' H' → DAt K mo S' y v → Q v H') ∧ (∀ c f y a v H' S', kx c f y → New S H S' H' → DAt K mo S' y v → H' a = some (.xd [(f, v)]) → E (.ref c) (some a) H')
/-- more objects; the state at m may have turned -/
structure NewM (m : Addr) (S H S' H' : Hp) : Prop where
  hh : Kp m H H'
  ss : Same S S'
  sh : Same S' H'
  nw : ∀ a, H a ≠ none → S a = none → S' a = none
  tb : (∀ a ps, S a ≠ some (.tbl ps)) → ∀ a ps, S' a ≠ some (.tbl ps)
abbrev SpM := Nat → List D → (D → Nat → Prop) → (Addr → Str → D → Nat → Prop) → Prop
def spSt (K : PySem.W.Frag) (d : SpM) : Sp := fun vs H Q E => ∃ (S : Hp) (m : Addr) (n : Nat) (ds : List D) (k : D → Nat → Prop) (kx : Addr → Str → D → Nat → Prop), Same S H ∧ S m = none ∧ MAt H m n ∧ (∀ c, Cel H m c → ∃ o, S c = some o) ∧ DsAt K (some m) S ds vs ∧ d n ds k kx ∧
  (∀ y n' v H' S', k y n' → NewM m S H S' H' → MAt H' m n' → (∀ c, Cel H m c → Cel H' m c) → DAt K (some m) S' y v → Q v H') ∧
  (∀ c f y n' a v H' S', kx c f y n' → NewM m S H S' H' → MAt H' m n' → (∀ c, Cel H m c → Cel H' m c) → DAt K (some m) S' y v → H' a = some (.xd [(f, v)]) → E (.ref c) (some a) H')
def dCall0 (d : SpP) (a : DA) : DE := fun x e k => a x e fun ys e1 => d ys (fun y => k y e1) fun _ _ _ => False
def dCallX (d : SpP) (a : DA) : DE := fun x e k => a x e fun ys e1 => d ys (fun y => k y e1) fun c f y => x c f y e1
def dCallM0 (d : SpM) (a : DA) : DE := fun x e k => a x e fun ys e1 => d e1.n ys (fun y n => k y { e1 with n := n }) fun _ _ _ _ => False
def dCallMX (d : SpM) (a : DA) : DE := fun x e k => a x e fun ys e1 => d e1.n ys (fun y n => k y { e1 with n := n }) fun c f y n => x c f y { e1 with n := n }
section
variable {C : Ct} {R : Root} {hd : List (Addr × HO)} {e : Fr} {ts : List D} {vs : List V} {σ : L2.St} {H S : Hp} {te ta tb tc : TE} {a b c : DE} {f : DF} {tt uu : TT} {dt du : DT} {A : TA} {dA : DA} {t u : TS} {p q : DS} {K : PySem.W.Frag} {E : XK}
theorem sim_call0 {d : SpP} (hK : C.R.K = K) (h1 : SimA C A dA) : SimE C (tCall (spPu K d) [] E A) (dCall0 d dA) := by
  subst hK
  intro x lx e hd ts vs σ H Q k rp h q
  refine h1 x lx e hd ts vs σ H _ _ rp h fun ys e1 ws H1 h1' hl r1 => ?_
  obtain ⟨S, r1⟩ := r1
  obtain ⟨t1, t2⟩ := DsAt.split hl r1.tmp
  rw [List.append_nil]
  exact ⟨S, _, ys, _, _, r1.sh, t1, h1', fun y v H' S' ky n dv => q _ _ _ _ ky ⟨S', (r1.grow n).temps (.cons dv (t2.mono n.ss))⟩, fun _ _ _ _ _ _ _ z => z.elim⟩
theorem sim_callX {d : SpP} (hK : C.R.K = K) (hE : C.E = E) (h1 : SimA C A dA) : SimE C (tCall (spPu K d) [] E A) (dCallX d dA) := by
  subst hK hE
  intro x lx e hd ts vs σ H Q k rp h q
  refine h1 x lx e hd ts vs σ H _ _ rp h fun ys e1 ws H1 h1' hl r1 => ?_
  obtain ⟨S, r1⟩ := r1
  obtain ⟨t1, t2⟩ := DsAt.split hl r1.tmp
  rw [List.append_nil]
  exact ⟨S, _, ys, _, _, r1.sh, t1, h1', fun y v H' S' ky n dv => q _ _ _ _ ky ⟨S', (r1.grow n).temps (.cons dv (t2.mono n.ss))⟩,
    fun c f y a v H' S' ky n dv ha => lx c f y e1 hd ts vs σ H' a v ⟨S', (r1.grow n).temps (.cons dv (t2.mono n.ss))⟩ ha ky⟩
theorem tabs_kp {m P : Addr} {n : Nat} {q : Str} {H H' : Hp} (hm : MAt H m n) (k : Kp m H H') (t : LamX.TabS H P q) : LamX.TabS H' P q := by
  obtain ⟨ps, h1, h2, h3⟩ := t
  obtain ⟨l, s, p, c, cs, a1, _⟩ := hm
  have ne : ∀ {b : Addr} {o : HO}, H b = some o → (∀ kvs, o ≠ .dK kvs) → b ≠ m := fun hb ho z => by
    rw [z, a1] at hb
    exact ho _ (Option.some.inj hb).symm
  refine ⟨ps, k _ _ (ne h1 fun _ z => (nomatch z)) h1, h2, fun pos cv hc => ?_⟩
  obtain ⟨c, h4, h5⟩ := h3 pos cv hc
  exact ⟨c, h4, k _ _ (ne h5 fun _ z => (nomatch z)) h5⟩
/-- the state turns -/
theorem RepS.growM {m : Addr} {n' : Nat} {S' H' : Hp} (r : RepS R hd e ts vs σ H S) (hl : R.live = true) (hm : R.mo = some m) (n : NewM m S H S' H') (ma : MAt H' m n') (ce : ∀ c, Cel H m c → Cel H' m c) : RepS R hd { e with n := n' } ts vs σ H' S' := by
  obtain ⟨h0, h1, h2, h3, h4⟩ := r.st hl m hm
  have Hm : H m ≠ none := by
    obtain ⟨l, s, p, c, cs, a1, _⟩ := h2
    rw [a1]; exact fun z => nomatch z
  obtain ⟨om, hm1, hm2⟩ := h0
  have nem : ∀ {p : Addr}, R.fr p → p ≠ m := fun hp z => (Root.fr_ne hp hm1 hm2) z.symm
  exact {
    keep := fun a o h hn q => n.hh a o (fun z => h hl (by rw [hm, z])) (r.keep a o h hn q)
    s0 := r.s0.trans n.ss
    old := fun a o h hn q => by
      by_cases e1 : a = m
      · rw [e1]; exact n.nw m Hm h1
      · exact n.nw a (by rw [r.keep a o (fun _ w => e1 (by rw [hm] at w; exact Option.some.inj w)) hn h]; exact fun y => nomatch y) (r.old a o h hn q)
    sh := n.sh
    len := r.len
    slots := fun i w h => (r.slots i w h).mono n.ss fun p u ow e1 => n.hh p u (nem (r.own i p ⟨⟨w, h, ow⟩, e1⟩).2)
    tmp := r.tmp.mono n.ss
    own := fun i p h => ⟨n.nw p (r.there h) (r.own i p h).1, (r.own i p h).2⟩
    inj := r.inj
    hnt := r.hnt
    hid := fun p o h => by
      obtain ⟨g1, g2, g3, g4⟩ := r.hid p o h
      exact ⟨n.hh _ _ (nem g3) g1, n.nw p (by rw [g1]; exact fun z => nomatch z) g2, g3, g4⟩
    st := fun _ m' em => by
      obtain rfl : m = m' := by rw [hm] at em; exact Option.some.inj em
      refine ⟨⟨om, hm1, hm2⟩, n.nw m Hm h1, ma, fun c hc => ?_, fun c hc => ce c (h4 c hc)⟩
      obtain ⟨c', hc', _⟩ := h2.cel
      obtain ⟨l, s, p, e1⟩ := ce c' hc'
      obtain rfl := hc.eq e1
      obtain ⟨o, ho⟩ := h3 _ hc'
      exact ⟨o, n.ss _ _ ho⟩
    tab := fun hl q hq => tabs_kp h2 n.hh (r.tab hl q hq)
    tb := fun h => n.tb (r.tb h) }
theorem sim_callM0 {d : SpM} {m : Addr} (hK : C.R.K = K) (hl : C.R.live = true) (hm : C.R.mo = some m) (h1 : SimA C A dA) : SimE C (tCall (spSt K d) [] E A) (dCallM0 d dA) := by
  subst hK
  intro x lx e hd ts vs σ H Q k rp h q
  refine h1 x lx e hd ts vs σ H _ _ rp h fun ys e1 ws H1 h1' hl' r1 => ?_
  obtain ⟨S, r1⟩ := r1
  obtain ⟨t1, t2⟩ := DsAt.split hl' r1.tmp
  rw [List.append_nil]
  obtain ⟨g0, g1, g2, g3, g4⟩ := r1.st hl m hm
  rw [hm] at t1
  exact ⟨S, m, e1.n, ys, _, _, r1.sh, g1, g2, g3, t1, h1', fun y n' v H' S' ky n ma ce dv => q _ _ _ _ ky ⟨S', (r1.growM hl hm n ma ce).temps (.cons (by rw [hm]; exact dv) (t2.mono n.ss))⟩, fun _ _ _ _ _ _ _ _ z => z.elim⟩
theorem sim_callMX {d : SpM} {m : Addr} (hK : C.R.K = K) (hl : C.R.live = true) (hm : C.R.mo = some m) (hE : C.E = E) (h1 : SimA C A dA) : SimE C (tCall (spSt K d) [] E A) (dCallMX d dA) := by
  subst hK hE
  intro x lx e hd ts vs σ H Q k rp h q
  refine h1 x lx e hd ts vs σ H _ _ rp h fun ys e1 ws H1 h1' hl' r1 => ?_
  obtain ⟨S, r1⟩ := r1
  obtain ⟨t1, t2⟩ := DsAt.split hl' r1.tmp
  rw [List.append_nil]
  obtain ⟨g0, g1, g2, g3, g4⟩ := r1.st hl m hm
  rw [hm] at t1
  exact ⟨S, m, e1.n, ys, _, _, r1.sh, g1, g2, g3, t1, h1', fun y n' v H' S' ky n ma ce dv => q _ _ _ _ ky ⟨S', (r1.growM hl hm n ma ce).temps (.cons (by rw [hm]; exact dv) (t2.mono n.ss))⟩,
    fun c f y n' a v H' S' ky n ma ce dv ha => lx c f y { e1 with n := n' } hd ts vs σ H' a v ⟨S', (r1.growM hl hm n ma ce).temps (.cons (by rw [hm]; exact dv) (t2.mono n.ss))⟩ ha ky⟩
/-! ### a def's body -/
def startF (n : Nat) (N : List Str) (ds : List D) : Fr := ⟨n, ds.map .d ++ List.replicate (N.length - ds.length) .u⟩
theorem rep_start {N : List Str} {ds : List D} {n : Nat} (sh : Same S H) (hd' : DsAt R.K R.mo S ds vs) (hH : R.H0 = H) (hS : R.S0 = S) (hst : R.live = true → ∀ m, R.mo = some m → S m = none ∧ MAt H m n ∧ (∀ c, Cel H m c → ∃ o, S c = some o)) (htb : R.tabs = true → LamX.Tabs R.T H) :
    Rep R [] (startF n N ds) [] [] (start N vs) H := by
  have hl := hd'.length
  have slot : ∀ (i : Nat) (w : Slo), (startF n N ds).g[i]? = some w → w.own = false ∧ SlotAt R.K R.mo S H w (start N vs)[i]? := by
    intro i w h
    have h : (ds.map Slo.d ++ List.replicate (N.length - ds.length) Slo.u)[i]? = some w := h
    show w.own = false ∧ SlotAt R.K R.mo S H w (vs.map some ++ List.replicate (N.length - vs.length) none)[i]?
    by_cases hi : i < ds.length
    · rw [List.getElem?_append_left (by rw [List.length_map]; exact hi), List.getElem?_map, List.getElem?_eq_getElem hi] at h
      obtain rfl := (Option.some.inj h).symm
      obtain ⟨v, e1, e2⟩ := hd'.get (List.getElem?_eq_getElem hi)
      rw [List.getElem?_append_left (by rw [List.length_map, ← hl]; exact hi), List.getElem?_map, e1]
      exact ⟨rfl, v, rfl, e2⟩
    · rw [List.getElem?_append_right (by rw [List.length_map]; omega), List.getElem?_replicate] at h
      split at h
      · obtain rfl := (Option.some.inj h).symm
        exact ⟨rfl, trivial⟩
      · cases h
  have nown : ∀ i p, ¬ Owns (startF n N ds).g (start N vs) i p := by
    rintro i p ⟨⟨w, h1, h2⟩, _⟩
    rw [(slot i w h1).1] at h2
    cases h2
  refine ⟨S, ?_⟩
  exact {
    keep := fun a o _ _ h => by rw [hH] at h; exact h
    s0 := by rw [hS]; exact Same.refl _
    old := fun a o _ _ h => by rw [hS] at h; exact h
    sh := sh
    len := by
      show (vs.map some ++ List.replicate (N.length - vs.length) none).length = (ds.map Slo.d ++ List.replicate (N.length - ds.length) Slo.u).length
      rw [List.length_append, List.length_append, List.length_map, List.length_map, List.length_replicate, List.length_replicate, hl]
    slots := fun i w h => (slot i w h).2
    tmp := .nil
    own := fun i p h => absurd h (nown i p)
    inj := fun i j p h _ => absurd h (nown i p)
    hnt := fun p o h => nomatch h
    hid := fun p o h => nomatch h
    st := fun h m em => by
      obtain ⟨h1, h2, h3⟩ := hst h m em
      refine ⟨?_, h1, h2, h3, fun c hc => by rw [hH] at hc; exact hc⟩
      rw [hH]
      obtain ⟨l, s, p, c, cs, a1, _⟩ := h2
      exact ⟨_, a1, fun _ _ z => nomatch z⟩
    tab := htb
    tb := fun h => by rw [hS] at h; exact h }
theorem enterP {d : SpP} {N : List Str} {Q : VK} {dS : DS} (h : spPu K d vs H Q E) (sim : ∀ S mo, SimS ⟨⟨K, H, S, mo, false, false, []⟩, E⟩ t dS)
    (go : ∀ ds k kx, d ds k kx → dS (fun c f y _ => kx c f y) { nx := fun _ => k .non, rt := fun y _ => k y, bk := fun _ => False, ct := fun _ => False } (startF 0 N ds)) :
    t { nx := fun _ H' => Q .non H', rt := Q } (start N vs) H := by
  obtain ⟨S, mo, ds, k, kx, sh, hd', hk, q, qx⟩ := h
  have fin : ∀ {e : Fr} {hd : List (Addr × HO)} {ts : List D} {vs : List V} {σ : L2.St} {H' : Hp} {y : D} {v : V}, Rep ⟨K, H, S, mo, false, false, []⟩ hd e (y :: ts) (v :: vs) σ H' → ∃ S', New S H S' H' ∧ DAt K mo S' y v := by
    rintro e hd ts vs σ H' y v ⟨S', r⟩
    cases r.tmp with
    | cons c _ => exact ⟨S', ⟨fun a o h => r.keep a o (fun z => nomatch z) (fun z => nomatch z) h, r.s0, r.sh, fun a h q => by
      cases z : H a with
      | none => exact absurd z h
      | some o => exact r.old a o z (fun z => nomatch z) q, r.tb⟩, c⟩
  refine sim S mo _ ?_ (startF 0 N ds) [] [] [] (start N vs) H _ _ (rep_start (R := ⟨K, H, S, mo, false, false, []⟩) sh hd' rfl rfl (fun z => nomatch z) fun z => nomatch z) ?_ (go ds k kx hk)
  · intro c f y e hd ts vs σ H' a v r ha kc
    obtain ⟨S', nw, dv⟩ := fin r
    exact qx c f y a v H' S' kc nw dv ha
  · refine ⟨fun e1 σ1 H1 r1 z => ?_, fun y v e1 σ1 H1 r1 z => ?_, fun e1 σ1 H1 r1 z => z.elim, fun e1 σ1 H1 r1 z => z.elim⟩
    · obtain ⟨S1, r1⟩ := r1
      obtain ⟨S', nw, dv⟩ := fin (y := .non) (v := .non) ⟨S1, r1.push .non⟩
      exact q _ _ _ _ z nw dv
    · obtain ⟨S', nw, dv⟩ := fin r1
      exact q _ _ _ _ z nw dv
theorem enterM {d : SpM} {N : List Str} {Q : VK} {dS : DS} (h : spSt K d vs H Q E) (sim : ∀ S m, SimS ⟨⟨K, H, S, some m, true, false, []⟩, E⟩ t dS)
    (go : ∀ n ds k kx, d n ds k kx → dS (fun c f y e => kx c f y e.n) { nx := fun e => k .non e.n, rt := k, bk := fun _ => False, ct := fun _ => False } (startF n N ds)) :
    t { nx := fun _ H' => Q .non H', rt := Q } (start N vs) H := by
  obtain ⟨S, m, n, ds, k, kx, sh, sm, ma, ce, hd', hk, q, qx⟩ := h
  have fin : ∀ {e : Fr} {hd : List (Addr × HO)} {ts : List D} {vs : List V} {σ : L2.St} {H' : Hp} {y : D} {v : V}, Rep ⟨K, H, S, some m, true, false, []⟩ hd e (y :: ts) (v :: vs) σ H' → ∃ S', NewM m S H S' H' ∧ MAt H' m e.n ∧ (∀ c, Cel H m c → Cel H' m c) ∧ DAt K (some m) S' y v := by
    rintro e hd ts vs σ H' y v ⟨S', r⟩
    obtain ⟨h0, h1, h2, h3, h4⟩ := r.st rfl m rfl
    cases r.tmp with
    | cons c _ => exact ⟨S', ⟨fun a o ne h => r.keep a o (fun _ z => ne (Option.some.inj z)) (fun z => nomatch z) h, r.s0, r.sh, fun a h q => by
      cases z : H a with
      | none => exact absurd z h
      | some o => exact r.old a o z (fun z => nomatch z) q, r.tb⟩, h2, h4, c⟩
  refine sim S m _ ?_ (startF n N ds) [] [] [] (start N vs) H _ _ (rep_start (R := ⟨K, H, S, some m, true, false, []⟩) sh hd' rfl rfl (fun _ m' em => ?_) fun z => nomatch z) ?_ (go n ds k kx hk)
  · intro c f y e hd ts vs σ H' a v r ha kc
    obtain ⟨S', nw, h2, h4, dv⟩ := fin r
    exact qx c f y _ a v H' S' kc nw h2 h4 dv ha
  · obtain rfl : m = m' := Option.some.inj em
    exact ⟨sm, ma, ce⟩
  · refine ⟨fun e1 σ1 H1 r1 z => ?_, fun y v e1 σ1 H1 r1 z => ?_, fun e1 σ1 H1 r1 z => z.elim, fun e1 σ1 H1 r1 z => z.elim⟩
    · obtain ⟨S1, r1⟩ := r1
      obtain ⟨S', nw, h2, h4, dv⟩ := fin (y := .non) (v := .non) ⟨S1, r1.push .non⟩
      exact q _ _ _ _ _ z nw h2 h4 dv
    · obtain ⟨S', nw, h2, h4, dv⟩ := fin r1
      exact q _ _ _ _ _ z nw h2 h4 dv
theorem spPu_len {d : SpP} {m : Nat} {Q : VK} (hl : ∀ ds k kx, d ds k kx → ds.length = m) (h : spPu K d vs H Q E) : vs.length = m := by
  obtain ⟨S, mo, ds, k, kx, sh, hd', hk, _⟩ := h
  rw [← hd'.length]
  exact hl _ _ _ hk
theorem spSt_len {d : SpM} {m : Nat} {Q : VK} (hl : ∀ n ds k kx, d n ds k kx → ds.length = m) (h : spSt K d vs H Q E) : vs.length = m := by
  obtain ⟨S, mo, n, ds, k, kx, sh, _, _, _, hd', hk, _⟩ := h
  rw [← hd'.length]
  exact hl _ _ _ _ hk
end
end Pu

namespace Pu
open PySem PySem.Spec PyProof.Rows L2 Gd RZ
/-! ### operators on data -/
def oI (f : Int → Int → V) : D → D → (D → Prop) → Prop := fun x y k => match x, y with
  | .int i, .int j => k (cD (f i j))
  | _, _ => False
def oIC (P : Int → Int → Prop) (f : Int → Int → V) : D → D → (D → Prop) → Prop := fun x y k => match x, y with
  | .int i, .int j => P i j ∧ k (cD (f i j))
  | _, _ => False
def oU (f : Int → V) : D → (D → Prop) → Prop := fun x k => match x with
  | .int i => k (cD (f i))
  | _ => False
def oEq : D → D → (D → Prop) → Prop := fun x y k => match x, y with
  | .int i, .int j => k (.bl (decide (i = j)))
  | .str i, .str j => k (.bl (decide (i = j)))
  | .bl i, .bl j => k (.bl (decide (i = j)))
  | .non, .non => k (.bl true)
  | .non, .int _ => k (.bl false) | .non, .str _ => k (.bl false) | .non, .bl _ => k (.bl false)
  | .int _, .non => k (.bl false) | .str _, .non => k (.bl false) | .bl _, .non => k (.bl false)
  | .int _, .str _ => k (.bl false) | .str _, .int _ => k (.bl false) | .bl _, .str _ => k (.bl false) | .str _, .bl _ => k (.bl false)
  | _, _ => False
def oNe : D → D → (D → Prop) → Prop := fun x y k => oEq x y (isBl fun b => k (.bl (!b)))
def nonD : D → Bool
  | .non => true | _ => false
def oIsN : D → D → (D → Prop) → Prop := fun x y k => nonD y = true ∧ k (.bl (nonD x))
def oNotN : D → D → (D → Prop) → Prop := fun x y k => nonD y = true ∧ k (.bl (!nonD x))
def onS (k : D → Prop) : Option D → Prop
  | some z => k z
  | none => False
def oIxL : D → D → (D → Prop) → Prop := fun x y k => match x, y with
  | .lst xs, .int i => onS k (atI xs i)
  | _, _ => False
def oIxT : D → D → (D → Prop) → Prop := fun x y k => match x, y with
  | .tup xs, .int i => onS k (atI xs i)
  | _, _ => False
def cut {α : Type} (xs : List α) (lo hi : Option Int) : List α := (xs.drop (HT.sIx xs.length 0 lo)).take (HT.sIx xs.length xs.length hi - HT.sIx xs.length 0 lo)
def oSlT : D → Option Int → Option Int → (D → Prop) → Prop := fun x lo hi k => match x with
  | .tup xs => k (.tup (cut xs lo hi))
  | _ => False
def oSlL : D → Option Int → Option Int → (List D → Prop) → Prop := fun x lo hi k => match x with
  | .lst xs => k (cut xs lo hi)
  | _ => False
def oCatT : D → D → (D → Prop) → Prop := fun x y k => match x, y with
  | .tup xs, .tup ys => xs.length + ys.length ≤ 1000000 ∧ k (.tup (xs ++ ys))
  | _, _ => False
def oCatL : D → D → (List D → Prop) → Prop := fun x y k => match x, y with
  | .lst xs, .lst ys => xs.length + ys.length ≤ 1000000 ∧ k (xs ++ ys)
  | _, _ => False
def oRepL : D → D → (List D → Prop) → Prop := fun x y k => match x, y with
  | .lst xs, .int i => i ≤ 1000000 ∧ -1000000 ≤ i ∧ xs.length * i.toNat ≤ 1000000 ∧ k (List.replicate i.toNat xs).flatten
  | _, _ => False
def oRepT : D → D → (D → Prop) → Prop := fun x y k => match x, y with
  | .tup xs, .int i => xs ≠ [] ∧ 0 ≤ i ∧ i ≤ 1000 ∧ xs.length ≤ 1000 ∧ k (.tup (List.replicate i.toNat xs).flatten)
  | _, _ => False
def flatD : D → Bool
  | .non => true | .bl _ => true | .int _ => true | .str _ => true | _ => false
def eqF : D → D → Bool
  | .non, .non => true
  | .bl a, .bl b => a == b
  | .bl a, .int b => (if a then 1 else 0) == b
  | .int a, .bl b => a == (if b then 1 else 0)
  | .int a, .int b => a == b
  | .str a, .str b => a == b
  | _, _ => false
def inD (x : D) (xs : List D) : Bool := xs.any fun y => eqF y x
def oIn (neg : Bool) : D → D → (D → Prop) → Prop := fun x y k => match y with
  | .lst xs => flatD x = true ∧ xs.all flatD = true ∧ k (.bl (if neg then !inD x xs else inD x xs))
  | .tup xs => flatD x = true ∧ xs.all flatD = true ∧ k (.bl (if neg then !inD x xs else inD x xs))
  | _ => False
def oLen : List D → (D → Prop) → Prop := fun xs k => match xs with
  | [.lst ys] => k (.int ys.length)
  | [.tup ys] => k (.int ys.length)
  | _ => False
def oTupleOf : List D → (D → Prop) → Prop := fun xs k => match xs with
  | [.lst ys] => k (.tup ys)
  | [.tup ys] => k (.tup ys)
  | _ => False
def oListOf : List D → (List D → Prop) → Prop := fun xs k => match xs with
  | [.lst ys] => k ys
  | [.tup ys] => k ys
  | _ => False
def intsD : List D → Option (List Int)
  | [] => some []
  | .int i :: r => (intsD r).map (i :: ·)
  | _ :: _ => none
def blsD : List D → Option (List Bool)
  | [] => some []
  | .bl i :: r => (blsD r).map (i :: ·)
  | _ :: _ => none
def oSum : List D → (D → Prop) → Prop := fun xs k => match xs with
  | [.lst ys] => ∃ ns, intsD ys = some ns ∧ k (.int ns.sum)
  | _ => False
def oAll : List D → (D → Prop) → Prop := fun xs k => match xs with
  | [.lst ys] => ∃ ns, blsD ys = some ns ∧ k (.bl (ns.all id))
  | _ => False
def oAny : List D → (D → Prop) → Prop := fun xs k => match xs with
  | [.lst ys] => ∃ ns, blsD ys = some ns ∧ k (.bl (ns.any id))
  | _ => False
def o2 (f : Int → Int → Int) : List D → (D → Prop) → Prop := fun xs k => match xs with
  | [.int i, .int j] => k (.int (f i j))
  | _ => False
def o1 (f : Int → Int) : List D → (D → Prop) → Prop := fun xs k => match xs with
  | [.int i] => k (.int (f i))
  | _ => False
/-- the built-in class's name that a value has -/
def tyD : D → Option String
  | .non => some "NoneType" | .bl _ => some "bool" | .int _ => some "int" | .str _ => some "str" | .tup _ => some "tuple" | .lst _ => some "list" | .dic _ => some "dict" | _ => none
mutual
def D.py : D → PyData
  | .bl b => .bool b | .int i => .int i | .str x => .str x | .tup xs => .tuple (pyAll xs) | .lst xs => .list (pyAll xs) | _ => .none
def pyAll : List D → List PyData
  | [] => []
  | x :: r => x.py :: pyAll r
end
mutual
def D.plain : D → Bool
  | .non => true | .bl _ => true | .int _ => true | .str _ => true | .tup xs => plainAll xs | .lst xs => plainAll xs | _ => false
def plainAll : List D → Bool
  | [] => true
  | x :: r => x.plain && plainAll r
end
def oEqD : D → D → (D → Prop) → Prop := fun x y k => x.plain = true ∧ y.plain = true ∧ SeqAt.shaped x.py = true ∧ SeqAt.shaped y.py = true ∧ k (.bl (PyData.eqv x.py y.py))
def oNeD : D → D → (D → Prop) → Prop := fun x y k => x.plain = true ∧ y.plain = true ∧ SeqAt.shaped x.py = true ∧ SeqAt.shaped y.py = true ∧ k (.bl (!PyData.eqv x.py y.py))
def oRepr : List D → (D → Prop) → Prop := fun xs k => match xs with
  | [x] => x.plain = true ∧ x.py.showable = true ∧ x.py.hasDict = false ∧ x.py.depth ≤ 150 ∧ x.py.shown.length ≤ sizeLine ∧ k (.str x.py.shown)
  | _ => False
section
variable {C : Ct} {K : PySem.W.Frag} {mo : Option Addr} {S H : Hp}
theorem DAt.int_inv {v : V} {i : Int} (h : DAt K mo S (.int i) v) : v = .int i := by cases h; rfl
theorem DAt.str_inv {v : V} {i : Str} (h : DAt K mo S (.str i) v) : v = .str i := by cases h; rfl
theorem DAt.bl_inv {v : V} {i : Bool} (h : DAt K mo S (.bl i) v) : v = .bl i := by cases h; rfl
theorem DAt.non_inv {v : V} (h : DAt K mo S .non v) : v = .non := by cases h; rfl
theorem DAt.tup_inv {v : V} {xs : List D} (h : DAt K mo S (.tup xs) v) : ∃ p vs, v = .ref p ∧ SqT K S p vs ∧ DsAt K mo S xs vs ∧ xs.length ≤ sizeLine := by
  cases h with
  | tup a b c => exact ⟨_, _, rfl, a, b, c⟩
theorem DAt.lst_inv {v : V} {xs : List D} (h : DAt K mo S (.lst xs) v) : ∃ p vs, v = .ref p ∧ S p = some (.lst vs) ∧ DsAt K mo S xs vs ∧ xs.length ≤ sizeLine := by
  cases h with
  | lst a b c => exact ⟨_, _, rfl, a, b, c⟩
theorem DsAt.one {v : V} {x : D} {vs : List V} (h : DsAt K mo S [x] vs) : ∃ v, vs = [v] ∧ DAt K mo S x v := by
  cases h with
  | cons a b => cases b; exact ⟨_, rfl, a⟩
theorem DsAt.two {x y : D} {vs : List V} (h : DsAt K mo S [x, y] vs) : ∃ v w, vs = [v, w] ∧ DAt K mo S x v ∧ DAt K mo S y w := by
  cases h with
  | cons a b =>
    cases b with
    | cons c d => cases d; exact ⟨_, _, rfl, a, c⟩
theorem simr_i0 {f : Int → Int → V} : SimR C (rI0 f) (oI f) := by
  intro x y v w S H Q k sh dx dy h q
  unfold oI at h
  split at h
  · obtain rfl := dx.int_inv
    obtain rfl := dy.int_inv
    exact ⟨_, _, rfl, rfl, q _ _ S H h (New.refl sh) (.c _)⟩
  · exact h.elim
theorem simr_i {P : Int → Int → Prop} {f : Int → Int → V} : SimR C (rI P f) (oIC P f) := by
  intro x y v w S H Q k sh dx dy h q
  unfold oIC at h
  split at h
  · obtain rfl := dx.int_inv
    obtain rfl := dy.int_inv
    exact ⟨_, _, rfl, rfl, h.1, q _ _ S H h.2 (New.refl sh) (.c _)⟩
  · exact h.elim
theorem simu_i {f : Int → V} : SimU C (rU f) (oU f) := by
  intro x v S H Q k sh dx h q
  unfold oU at h
  split at h
  · obtain rfl := dx.int_inv
    exact ⟨_, rfl, q _ _ S H h (New.refl sh) (.c _)⟩
  · exact h.elim
theorem eq_scal {x y : D} {v w : V} {k : D → Prop} (dx : DAt K mo S x v) (dy : DAt K mo S y w) (h : oEq x y k) : scal v w = true ∧ k (.bl (decide (v = w))) := by
  unfold oEq at h
  split at h
  all_goals first | exact h.elim | skip
  all_goals (cases dx; cases dy; first | exact ⟨rfl, by simpa using h⟩ | exact ⟨rfl, h⟩)
theorem simr_eq : SimR C rEq oEq := by
  intro x y v w S H Q k sh dx dy h q
  obtain ⟨h1, h2⟩ := eq_scal dx dy h
  exact ⟨h1, q _ _ S H h2 (New.refl sh) (.bl _)⟩
theorem simr_ne : SimR C rNe oNe := by
  intro x y v w S H Q k sh dx dy h q
  obtain ⟨h1, h2⟩ := eq_scal dx dy h
  exact ⟨h1, q _ _ S H h2 (New.refl sh) (.bl _)⟩
theorem nonD_iff {x : D} {v : V} (dx : DAt K mo S x v) (h : ∀ u, x ≠ .raw u) : decide (v = .non) = nonD x := by
  cases dx <;> first | rfl | exact absurd rfl (h _)
theorem nonD_of {x : D} {v : V} (dx : DAt K mo S x v) (h : nonD x = true) : v = .non := by
  cases dx <;> first | rfl | cases h
theorem simr_isN : SimR C (fun x y H Q => y = .non ∧ Q (.bl (decide (x = .non))) H) (fun x y k => (∀ u, x ≠ .raw u) ∧ oIsN x y k) := by
  intro x y v w S H Q k sh dx dy h q
  refine ⟨nonD_of dy h.2.1, ?_⟩
  rw [nonD_iff dx h.1]
  exact q _ _ S H h.2.2 (New.refl sh) (.bl _)
theorem simr_notN : SimR C (fun x y H Q => y = .non ∧ Q (.bl (!decide (x = .non))) H) (fun x y k => (∀ u, x ≠ .raw u) ∧ oNotN x y k) := by
  intro x y v w S H Q k sh dx dy h q
  refine ⟨nonD_of dy h.2.1, ?_⟩
  rw [nonD_iff dx h.1]
  exact q _ _ S H h.2.2 (New.refl sh) (.bl _)
theorem atI_get {xs : List D} {vs : List V} {i : Int} {z : D} (h : DsAt K mo S xs vs) (e : atI xs i = some z) : ∃ u, atI vs i = some u ∧ DAt K mo S z u := by
  unfold atI at e ⊢
  rw [← h.length]
  obtain ⟨j, e1, e2⟩ := Option.bind_eq_some_iff.mp e
  obtain ⟨u, h1, h2⟩ := h.get e2
  exact ⟨u, by rw [e1]; exact h1, h2⟩
theorem simr_ixL (hK : C.R.K = K) : SimR C (rIxL K) oIxL := by
  subst hK
  intro x y v w S H Q k sh dx dy h q
  unfold oIxL at h
  split at h
  · rename_i xs i
    obtain ⟨p, vs, rfl, h1, h2, h3⟩ := dx.lst_inv
    obtain rfl := dy.int_inv
    cases e : atI xs i with
    | none => rw [e] at h; exact h.elim
    | some z =>
      rw [e] at h
      obtain ⟨u, h4, h5⟩ := atI_get h2 e
      exact ⟨p, vs, i, u, rfl, rfl, sqL (sh _ _ h1), h4, q _ _ S H h (New.refl sh) h5⟩
  · exact h.elim
theorem simr_ixT (hK : C.R.K = K) : SimR C (rIxT K) oIxT := by
  subst hK
  intro x y v w S H Q k sh dx dy h q
  unfold oIxT at h
  split at h
  · rename_i xs i
    obtain ⟨p, vs, rfl, h1, h2, h3⟩ := dx.tup_inv
    obtain rfl := dy.int_inv
    cases e : atI xs i with
    | none => rw [e] at h; exact h.elim
    | some z =>
      rw [e] at h
      obtain ⟨u, h4, h5⟩ := atI_get h2 e
      exact ⟨p, vs, i, u, rfl, rfl, sh.seqT h1, h4, q _ _ S H h (New.refl sh) h5⟩
  · exact h.elim
theorem cut_at {xs : List D} {vs : List V} (lo hi : Option Int) (h : DsAt K mo S xs vs) : DsAt K mo S (cut xs lo hi) (cutV vs lo hi) := by
  unfold cut cutV
  rw [← h.length]
  exact (h.drop _).take _
theorem cut_len {α : Type} (xs : List α) (lo hi : Option Int) : (cut xs lo hi).length ≤ xs.length := by
  unfold cut
  rw [List.length_take, List.length_drop]
  omega
theorem siml_sl (hK : C.R.K = K) : SimL C (rSlA K) oSlT := by
  subst hK
  intro x v lo hi S H Q k sh dx h q
  unfold oSlT at h
  split at h
  · rename_i xs
    obtain ⟨p, vs, rfl, h1, h2, h3⟩ := dx.tup_inv
    refine ⟨p, vs, rfl, sh.seqT h1, fun hw => ?_, fun hw r hr => ?_⟩
    · refine q _ _ S H h (New.refl sh) ?_
      have e : cut xs lo hi = xs := by
        unfold cut
        rw [h2.length, hw.1, hw.2, ← h2.length]
        simp
      rw [e]
      exact .tup h1 h2 h3
    · have n := New.one sh hr (.tup (cutV vs lo hi))
      exact q _ _ _ _ h n (.tup (sqT upd_same) ((cut_at lo hi h2).mono n.ss) (Nat.le_trans (cut_len xs lo hi) h3))
  · exact h.elim
theorem simlf_sl (hK : C.R.K = K) : SimLF C (rSlL K) oSlL := by
  subst hK
  intro x v lo hi S H Q k sh dx h q
  unfold oSlL at h
  split at h
  · rename_i xs
    obtain ⟨p, vs, rfl, h1, h2, h3⟩ := dx.lst_inv
    exact ⟨p, vs, rfl, sqL (sh _ _ h1), fun r hr => q _ _ r h (Nat.le_trans (cut_len xs lo hi) h3) (cut_at lo hi h2) hr⟩
  · exact h.elim
theorem simr_catT (hK : C.R.K = K) : SimR C (rCatA K) oCatT := by
  subst hK
  intro x y v w S H Q k sh dx dy h q
  unfold oCatT at h
  split at h
  · rename_i xs ys
    obtain ⟨p, vs, rfl, h1, h2, h3⟩ := dx.tup_inv
    obtain ⟨p', ws, rfl, g1, g2, g3⟩ := dy.tup_inv
    refine ⟨p, p', vs, ws, rfl, rfl, sh.seqT h1, sh.seqT g1, by rw [← h2.length, ← g2.length]; exact line_of h.1, fun e => ?_, fun ne e => ?_, fun ne ne' r hr => ?_⟩
    · subst e
      cases h2
      exact q _ _ S H h.2 (New.refl sh) (.tup g1 g2 g3)
    · subst e
      cases g2
      refine q _ _ S H h.2 (New.refl sh) ?_
      rw [List.append_nil]
      exact .tup h1 h2 h3
    · have n := New.one sh hr (.tup (vs ++ ws))
      exact q _ _ _ _ h.2 n (.tup (sqT upd_same) ((h2.append g2).mono n.ss) (by rw [List.length_append]; exact line_of h.1))
  · exact h.elim
theorem simrf_cat : SimRF C rCat oCatL := by
  intro x y v w S H Q k sh dx dy h q
  unfold oCatL at h
  split at h
  · rename_i xs ys
    obtain ⟨p, vs, rfl, h1, h2, h3⟩ := dx.lst_inv
    obtain ⟨p', ws, rfl, g1, g2, g3⟩ := dy.lst_inv
    exact ⟨p, p', vs, ws, rfl, rfl, sh _ _ h1, sh _ _ g1, by rw [← h2.length, ← g2.length]; exact line_of h.1, fun r hr => q _ _ r h.2 (by rw [List.length_append]; exact line_of h.1) (h2.append g2) hr⟩
  · exact h.elim
theorem DsAt.rep {xs : List D} {vs : List V} (h : DsAt K mo S xs vs) : ∀ n : Nat, DsAt K mo S (List.replicate n xs).flatten (List.replicate n vs).flatten
  | 0 => .nil
  | n + 1 => by
    rw [List.replicate_succ, List.flatten_cons, List.replicate_succ, List.flatten_cons]
    exact h.append (DsAt.rep h n)
theorem rep_len {α : Type} (xs : List α) : ∀ n : Nat, (List.replicate n xs).flatten.length = xs.length * n
  | 0 => rfl
  | n + 1 => by
    rw [List.replicate_succ, List.flatten_cons, List.length_append, rep_len xs n, Nat.mul_succ]
    omega
theorem simrf_rep : SimRF C rRep oRepL := by
  intro x y v w S H Q k sh dx dy h q
  unfold oRepL at h
  split at h
  · rename_i xs i
    obtain ⟨p, vs, rfl, h1, h2, h3⟩ := dx.lst_inv
    obtain rfl := dy.int_inv
    obtain ⟨a1, a2, a3, a4⟩ := h
    exact ⟨p, i, vs, rfl, rfl, sh _ _ h1, by omega, by omega, by rw [← h2.length]; exact line_of a3, fun r hr => q _ _ r a4 (by rw [rep_len]; exact line_of a3) (h2.rep _) hr⟩
  · exact h.elim
theorem simr_repT (hK : C.R.K = K) : SimR C (rRepA K) oRepT := by
  subst hK
  intro x y v w S H Q k sh dx dy h q
  unfold oRepT at h
  split at h
  · rename_i xs i
    obtain ⟨p, vs, rfl, h1, h2, h3⟩ := dx.tup_inv
    obtain rfl := dy.int_inv
    obtain ⟨a0, a1, a2, a3, a4⟩ := h
    refine ⟨p, i, vs, rfl, rfl, sh.seqT h1, fun z => ?_, a1, a2, by rw [← h2.length]; exact a3, fun e => ?_, fun _ r hr => ?_⟩
    · subst z
      cases h2
      exact a0 rfl
    · subst e
      refine q _ _ S H a4 (New.refl sh) ?_
      have e2 : (List.replicate (1 : Int).toNat xs).flatten = xs := by simp
      rw [e2]
      exact .tup h1 h2 h3
    · have n := New.one sh hr (.tup (List.replicate i.toNat vs).flatten)
      refine q _ _ _ _ a4 n (.tup (sqT upd_same) ((h2.rep _).mono n.ss) ?_)
      rw [rep_len]
      have : xs.length * i.toNat ≤ 1000 * 1000 := Nat.mul_le_mul a3 (by omega)
      exact line_of this
  · exact h.elim
theorem flat_of {x : D} {v : V} (dx : DAt K mo S x v) (h : flatD x = true) : flatV v = true := by
  cases dx <;> first | rfl | cases h
theorem flats_of {xs : List D} {vs : List V} (h : DsAt K mo S xs vs) (f : xs.all flatD = true) : vs.all flatV = true := by
  induction xs generalizing vs with
  | nil => cases h; rfl
  | cons x r ih =>
    cases h with
    | cons a b =>
      rw [List.all_cons, Bool.and_eq_true] at f
      rw [List.all_cons, flat_of a f.1, ih b f.2]
      rfl
theorem eqF_of {x y : D} {v w : V} (dx : DAt K mo S x v) (dy : DAt K mo S y w) (fx : flatD x = true) (fy : flatD y = true) : eqV v w = eqF x y := by
  cases dx <;> first | cases fx | skip
  all_goals (cases dy <;> first | rfl | cases fy)
theorem in_of {x : D} {v : V} {xs : List D} {vs : List V} (dx : DAt K mo S x v) (fx : flatD x = true) (h : DsAt K mo S xs vs) (f : xs.all flatD = true) : inV v vs = inD x xs := by
  induction xs generalizing vs with
  | nil => cases h; rfl
  | cons y r ih =>
    cases h with
    | cons a b =>
      rw [List.all_cons, Bool.and_eq_true] at f
      have e := ih b f.2
      unfold inV inD at e ⊢
      rw [List.any_cons, List.any_cons, eqF_of a dx f.1 fx, e]
theorem simr_in {neg : Bool} (hK : C.R.K = K) : SimR C (rIn K neg) (oIn neg) := by
  subst hK
  intro x y v w S H Q k sh dx dy h q
  unfold oIn at h
  split at h
  · obtain ⟨p, vs, rfl, h1, h2, h3⟩ := dy.lst_inv
    refine ⟨p, vs, rfl, .inl (sqL (sh _ _ h1)), flat_of dx h.1, flats_of h2 h.2.1, ?_⟩
    rw [in_of dx h.1 h2 h.2.1]
    exact q _ _ S H h.2.2 (New.refl sh) (.bl _)
  · obtain ⟨p, vs, rfl, h1, h2, h3⟩ := dy.tup_inv
    refine ⟨p, vs, rfl, .inr (sh.seqT h1), flat_of dx h.1, flats_of h2 h.2.1, ?_⟩
    rw [in_of dx h.1 h2 h.2.1]
    exact q _ _ S H h.2.2 (New.refl sh) (.bl _)
  · exact h.elim
theorem simb_len (hK : C.R.K = K) : SimB C (fun xs H Q => ∃ p ys, xs = [.ref p] ∧ (SqL K H p ys ∨ SqT K H p ys) ∧ Q (.int ys.length) H) oLen := by
  subst hK
  intro xs us S H Q k sh ds h q
  unfold oLen at h
  split at h
  · obtain ⟨v, rfl, d⟩ := DsAt.one (v := .non) ds
    obtain ⟨p, vs, rfl, h1, h2, h3⟩ := d.lst_inv
    exact ⟨p, vs, rfl, .inl (sqL (sh _ _ h1)), by rw [← h2.length]; exact q _ _ S H h (New.refl sh) (.int _)⟩
  · obtain ⟨v, rfl, d⟩ := DsAt.one (v := .non) ds
    obtain ⟨p, vs, rfl, h1, h2, h3⟩ := d.tup_inv
    exact ⟨p, vs, rfl, .inr (sh.seqT h1), by rw [← h2.length]; exact q _ _ S H h (New.refl sh) (.int _)⟩
  · exact h.elim
theorem simb_tupleOf (hK : C.R.K = K) : SimB C (fun xs H Q => ∃ p ys, xs = [.ref p] ∧ ((SqL K H p ys ∧ ∀ l, H l = none → Q (.ref l) (upd H l (.tup ys))) ∨ (SqT K H p ys ∧ Q (.ref p) H))) oTupleOf := by
  subst hK
  intro xs us S H Q k sh ds h q
  unfold oTupleOf at h
  split at h
  · obtain ⟨v, rfl, d⟩ := DsAt.one (v := .non) ds
    obtain ⟨p, vs, rfl, h1, h2, h3⟩ := d.lst_inv
    exact ⟨p, vs, rfl, .inl ⟨sqL (sh _ _ h1), fun r hr => q _ _ _ _ h (New.one sh hr _) (.tup (sqT upd_same) (h2.mono (New.one sh hr _).ss) h3)⟩⟩
  · obtain ⟨v, rfl, d⟩ := DsAt.one (v := .non) ds
    obtain ⟨p, vs, rfl, h1, h2, h3⟩ := d.tup_inv
    exact ⟨p, vs, rfl, .inr ⟨sh.seqT h1, q _ _ S H h (New.refl sh) (.tup h1 h2 h3)⟩⟩
  · exact h.elim
theorem simbf_listOf (hK : C.R.K = K) : SimBF C (fun xs H Q => ∃ p ys, xs = [.ref p] ∧ (SqL K H p ys ∨ SqT K H p ys) ∧ ∀ l, H l = none → Q (.ref l) (upd H l (.lst ys))) oListOf := by
  subst hK
  intro xs us S H Q k sh ds h q
  unfold oListOf at h
  split at h
  · obtain ⟨v, rfl, d⟩ := DsAt.one (v := .non) ds
    obtain ⟨p, vs, rfl, h1, h2, h3⟩ := d.lst_inv
    exact ⟨p, vs, rfl, .inl (sqL (sh _ _ h1)), fun r hr => q _ _ r h h3 h2 hr⟩
  · obtain ⟨v, rfl, d⟩ := DsAt.one (v := .non) ds
    obtain ⟨p, vs, rfl, h1, h2, h3⟩ := d.tup_inv
    exact ⟨p, vs, rfl, .inr (sh.seqT h1), fun r hr => q _ _ r h h3 h2 hr⟩
  · exact h.elim
theorem ints_at : ∀ {xs : List D} {ns : List Int} {vs : List V}, intsD xs = some ns → DsAt K mo S xs vs → vs = ns.map V.int
  | [], _, _, e, .nil => by cases e; rfl
  | .int i :: r, ns, _, e, .cons a b => by
    obtain ⟨ms, e1, rfl⟩ := Option.map_eq_some_iff.mp (show (intsD r).map (i :: ·) = some ns from e)
    rw [a.int_inv, ints_at e1 b]
    rfl
  | .non :: r, _, _, e, _ => nomatch e
  | .bl _ :: r, _, _, e, _ => nomatch e
  | .str _ :: r, _, _, e, _ => nomatch e
  | .tup _ :: r, _, _, e, _ => nomatch e
  | .lst _ :: r, _, _, e, _ => nomatch e
  | .dic _ :: r, _, _, e, _ => nomatch e
  | .st :: r, _, _, e, _ => nomatch e
  | .raw _ :: r, _, _, e, _ => nomatch e
theorem bls_at : ∀ {xs : List D} {ns : List Bool} {vs : List V}, blsD xs = some ns → DsAt K mo S xs vs → vs = ns.map V.bl
  | [], _, _, e, .nil => by cases e; rfl
  | .bl i :: r, ns, _, e, .cons a b => by
    obtain ⟨ms, e1, rfl⟩ := Option.map_eq_some_iff.mp (show (blsD r).map (i :: ·) = some ns from e)
    rw [a.bl_inv, bls_at e1 b]
    rfl
  | .non :: r, _, _, e, _ => nomatch e
  | .int _ :: r, _, _, e, _ => nomatch e
  | .str _ :: r, _, _, e, _ => nomatch e
  | .tup _ :: r, _, _, e, _ => nomatch e
  | .lst _ :: r, _, _, e, _ => nomatch e
  | .dic _ :: r, _, _, e, _ => nomatch e
  | .st :: r, _, _, e, _ => nomatch e
  | .raw _ :: r, _, _, e, _ => nomatch e
theorem simb_sum (hK : C.R.K = K) : SimB C (rSum K) oSum := by
  subst hK
  intro xs us S H Q k sh ds h q
  unfold oSum at h
  split at h
  · obtain ⟨v, rfl, d⟩ := DsAt.one (v := .non) ds
    obtain ⟨p, vs, rfl, h1, h2, h3⟩ := d.lst_inv
    obtain ⟨ns, e, h⟩ := h
    exact ⟨p, ns, rfl, by rw [← ints_at e h2]; exact sqL (sh _ _ h1), q _ _ S H h (New.refl sh) (.int _)⟩
  · exact h.elim
theorem simb_all (hK : C.R.K = K) : SimB C (rAll K) oAll := by
  subst hK
  intro xs us S H Q k sh ds h q
  unfold oAll at h
  split at h
  · obtain ⟨v, rfl, d⟩ := DsAt.one (v := .non) ds
    obtain ⟨p, vs, rfl, h1, h2, h3⟩ := d.lst_inv
    obtain ⟨ns, e, h⟩ := h
    exact ⟨p, ns, rfl, by rw [← bls_at e h2]; exact sqL (sh _ _ h1), q _ _ S H h (New.refl sh) (.bl _)⟩
  · exact h.elim
theorem simb_any (hK : C.R.K = K) : SimB C (rAny K) oAny := by
  subst hK
  intro xs us S H Q k sh ds h q
  unfold oAny at h
  split at h
  · obtain ⟨v, rfl, d⟩ := DsAt.one (v := .non) ds
    obtain ⟨p, vs, rfl, h1, h2, h3⟩ := d.lst_inv
    obtain ⟨ns, e, h⟩ := h
    exact ⟨p, ns, rfl, by rw [← bls_at e h2]; exact sqL (sh _ _ h1), q _ _ S H h (New.refl sh) (.bl _)⟩
  · exact h.elim
theorem simb_max2 : SimB C (fun xs H Q => ∃ i j, xs = [.int i, .int j] ∧ Q (.int (if j > i then j else i)) H) (o2 fun i j => if j > i then j else i) := by
  intro xs us S H Q k sh ds h q
  unfold o2 at h
  split at h
  · obtain ⟨v, w, rfl, d1, d2⟩ := ds.two
    rw [d1.int_inv, d2.int_inv]
    exact ⟨_, _, rfl, q _ _ S H h (New.refl sh) (.int _)⟩
  · exact h.elim
theorem simb_min2 : SimB C (fun xs H Q => ∃ i j, xs = [.int i, .int j] ∧ Q (.int (if j < i then j else i)) H) (o2 fun i j => if j < i then j else i) := by
  intro xs us S H Q k sh ds h q
  unfold o2 at h
  split at h
  · obtain ⟨v, w, rfl, d1, d2⟩ := ds.two
    rw [d1.int_inv, d2.int_inv]
    exact ⟨_, _, rfl, q _ _ S H h (New.refl sh) (.int _)⟩
  · exact h.elim
theorem simb_gcd : SimB C rGcd (o2 fun i j => ((Nat.gcd i.natAbs j.natAbs : Nat) : Int)) := by
  intro xs us S H Q k sh ds h q
  unfold o2 at h
  split at h
  · obtain ⟨v, w, rfl, d1, d2⟩ := ds.two
    rw [d1.int_inv, d2.int_inv]
    exact ⟨_, _, rfl, q _ _ S H h (New.refl sh) (.int _)⟩
  · exact h.elim
theorem simb_abs : SimB C (fun xs H Q => ∃ i, xs = [.int i] ∧ Q (.int (if i < 0 then -i else i)) H) (o1 fun i => if i < 0 then -i else i) := by
  intro xs us S H Q k sh ds h q
  unfold o1 at h
  split at h
  · obtain ⟨v, rfl, d1⟩ := DsAt.one (v := .non) ds
    rw [d1.int_inv]
    exact ⟨_, rfl, q _ _ S H h (New.refl sh) (.int _)⟩
  · exact h.elim
theorem simb_int1 : SimB C (fun xs H Q => (∃ i, xs = [.int i] ∧ Q (.int i) H) ∨ ∃ k, xs = [.bl k] ∧ Q (.int (if k then 1 else 0)) H) (o1 fun i => i) := by
  intro xs us S H Q k sh ds h q
  unfold o1 at h
  split at h
  · obtain ⟨v, rfl, d1⟩ := DsAt.one (v := .non) ds
    rw [d1.int_inv]
    exact .inl ⟨_, rfl, q _ _ S H h (New.refl sh) (.int _)⟩
  · exact h.elim
/-! ### == and repr of data -/
mutual
theorem dp_of (sh : Same S H) : ∀ {x : D} {v : V}, DAt K mo S x v → x.plain = true → Dp K H v x.py
  | _, _, .non, _ => by unfold D.py; exact .non
  | _, _, .bl b, _ => by unfold D.py; exact .bl b
  | _, _, .int i, _ => by unfold D.py; exact .int i
  | _, _, .str x, _ => by unfold D.py; exact .str x
  | _, _, .tup a b _, p => by
    unfold D.plain at p
    unfold D.py
    exact .tup (sh.seqT a) (dps_of sh b p)
  | _, _, .lst a b _, p => by
    unfold D.plain at p
    unfold D.py
    exact .lst (sqL (sh _ _ a)) (dps_of sh b p)
  | _, _, .dic _ _ _, p => by unfold D.plain at p; cases p
  | _, _, .st _, p => by unfold D.plain at p; cases p
  | _, _, .raw _, p => by unfold D.plain at p; cases p
theorem dps_of (sh : Same S H) : ∀ {xs : List D} {vs : List V}, DsAt K mo S xs vs → plainAll xs = true → DpAll K H vs (pyAll xs)
  | _, _, .nil, _ => by unfold pyAll; exact .nil
  | _, _, .cons a b, p => by
    unfold plainAll at p
    rw [Bool.and_eq_true] at p
    unfold pyAll
    exact .cons (dp_of sh a p.1) (dps_of sh b p.2)
end
theorem simr_eqD (hK : C.R.K = K) : SimR C (rEqD K) oEqD := by
  subst hK
  intro x y v w S H Q k sh dx dy h q
  exact ⟨_, _, dp_of sh dx h.1, dp_of sh dy h.2.1, h.2.2.1, h.2.2.2.1, q _ _ S H h.2.2.2.2 (New.refl sh) (.bl _)⟩
theorem simr_neD (hK : C.R.K = K) : SimR C (rNeD K) oNeD := by
  subst hK
  intro x y v w S H Q k sh dx dy h q
  exact ⟨_, _, dp_of sh dx h.1, dp_of sh dy h.2.1, h.2.2.1, h.2.2.2.1, q _ _ S H h.2.2.2.2 (New.refl sh) (.bl _)⟩
theorem simb_repr (hK : C.R.K = K) : SimB C (rRepr K) oRepr := by
  subst hK
  intro xs us S H Q k sh ds h q
  unfold oRepr at h
  split at h
  · obtain ⟨v, rfl, d⟩ := DsAt.one (v := .non) ds
    obtain ⟨h1, h2, h3, h4, h5, h6⟩ := h
    exact ⟨v, _, rfl, dp_of sh d h1, h2, h3, h4, h5, q _ _ S H h6 (New.refl sh) (.str _)⟩
  · exact h.elim
end
end Pu

namespace Pu
open PySem PySem.Spec PyProof.Rows L2 Gd RZ
/-! ### what is walked -/
def oItL : List D → (List D → Prop) → Prop := fun ys k => match ys with
  | [.lst xs] => k xs
  | _ => False
def oItT : List D → (List D → Prop) → Prop := fun ys k => match ys with
  | [.tup xs] => k xs
  | _ => False
def dIt (a : DE) (r : List D → (List D → Prop) → Prop) : DI := fun x e k => a x e fun y e1 => r [y] fun items => k items e1
def dItA (a : DA) (r : List D → (List D → Prop) → Prop) : DI := fun x e k => a x e fun ys e1 => r ys fun items => k items e1
def rangeD (lo : Int) (n : Nat) : List D := (List.range n).map fun i => .int (lo + (i : Nat))
def oRng1 : List D → (List D → Prop) → Prop := fun ys k => match ys with
  | [.int n] => -1000000 ≤ n ∧ n ≤ 1000000 ∧ k (rangeD 0 n.toNat)
  | _ => False
def oRng2 : List D → (List D → Prop) → Prop := fun ys k => match ys with
  | [.int a, .int b] => -1000000000 ≤ a ∧ a ≤ 1000000000 ∧ -1000000000 ≤ b ∧ b ≤ 1000000000 ∧ b - a ≤ 1000000 ∧ k (rangeD a (b - a).toNat)
  | _ => False
def zipD (xs ys : List D) : List D := List.zipWith (fun a b => .tup [a, b]) xs ys
def oZipA : List D → (List D → Prop) → Prop := fun ys k => match ys with
  | [.lst a, .lst b] => k (zipD a b)
  | [.tup a, .tup b] => k (zipD a b)
  | _ => False
def oZipM : List D → (List D → Prop) → Prop := fun ys k => match ys with
  | [.lst a, .tup b] => k (zipD a b)
  | _ => False
def oZipN : List D → (List D → Prop) → Prop := fun ys k => match ys with
  | [.tup a, .lst b] => k (zipD a b)
  | _ => False
def enumD (xs : List D) : List D := zipD (rangeD 0 xs.length) xs
def oEnL : List D → (List D → Prop) → Prop := fun ys k => match ys with
  | [.lst a] => k (enumD a)
  | _ => False
def oEnT : List D → (List D → Prop) → Prop := fun ys k => match ys with
  | [.tup a] => k (enumD a)
  | _ => False
def charsD (z : Str) : List D := z.cps.toList.map fun c => .str ⟨#[c]⟩
def oStr : List D → (List D → Prop) → Prop := fun ys k => match ys with
  | [.str z] => z.length ≤ 1000000 ∧ k (charsD z)
  | _ => False
section
variable {C : Ct} {R : Root} {hd : List (Addr × HO)} {e : Fr} {ts : List D} {vs : List V} {σ : L2.St} {H S : Hp} {te ta tb tc : TE} {a b c : DE} {A : TA} {dA : DA} {K : PySem.W.Frag}
theorem sim_iL (hK : C.R.K = K) (h1 : SimE C ta a) : SimI C (iList K ta) (dIt a oItL) := by
  subst hK
  intro x lx e hd ts vs σ H Q k rp h q
  refine h1 x lx e hd ts vs σ H _ _ rp h fun y e1 v H1 h1' r1 => ?_
  unfold oItL at h1'
  split at h1'
  · rename_i xs he
    cases he
    obtain ⟨S, r⟩ := id r1
    cases r.tmp with
    | cons c t =>
      obtain ⟨p, us, rfl, g1, g2, g3⟩ := c.lst_inv
      refine ⟨p, rfl, ⟨us, sqL (r.sh _ _ g1)⟩, q xs e1 _ _ [.lst xs] [.ref p] h1' rfl r1 ⟨g3, fun S2 H2 sh2 d2 => ?_⟩⟩
      obtain ⟨v, hv, c2⟩ := DsAt.one (v := .non) d2
      cases hv
      obtain ⟨p', us', ep, g1', g2', _⟩ := c2.lst_inv
      cases ep
      have hs := sqL (K := C.R.K) (sh2 _ _ g1')
      refine ⟨⟨us', hs, by rw [g2'.length]; exact Nat.le_refl _⟩, fun i d hi => ?_⟩
      obtain ⟨u, e1, e2⟩ := g2'.get hi
      refine ⟨⟨us', u, hs, e1⟩, fun w H3 hy => ?_⟩
      obtain ⟨rfl, hy⟩ := hy
      have := hy us' hs
      rw [e1] at this
      cases this
      exact ⟨S2, New.refl sh2, e2⟩
  · exact h1'.elim
theorem sim_iT (hK : C.R.K = K) (h1 : SimE C ta a) : SimI C (iTup K ta) (dIt a oItT) := by
  subst hK
  intro x lx e hd ts vs σ H Q k rp h q
  refine h1 x lx e hd ts vs σ H _ _ rp h fun y e1 v H1 h1' r1 => ?_
  unfold oItT at h1'
  split at h1'
  · rename_i xs he
    cases he
    obtain ⟨S, r⟩ := id r1
    cases r.tmp with
    | cons c t =>
      obtain ⟨p, us, rfl, g1, g2, g3⟩ := c.tup_inv
      refine ⟨p, rfl, ⟨us, r.sh.seqT g1⟩, q xs e1 _ _ [.tup xs] [.ref p] h1' rfl r1 ⟨g3, fun S2 H2 sh2 d2 => ?_⟩⟩
      obtain ⟨v, hv, c2⟩ := DsAt.one (v := .non) d2
      cases hv
      obtain ⟨p', us', ep, g1', g2', _⟩ := c2.tup_inv
      cases ep
      have hs := sh2.seqT g1'
      refine ⟨⟨us', hs, by rw [g2'.length]; exact Nat.le_refl _⟩, fun i d hi => ?_⟩
      obtain ⟨u, e1, e2⟩ := g2'.get hi
      refine ⟨⟨us', u, hs, e1⟩, fun w H3 hy => ?_⟩
      obtain ⟨rfl, hy⟩ := hy
      have := hy us' hs
      rw [e1] at this
      cases this
      exact ⟨S2, New.refl sh2, e2⟩
  · exact h1'.elim
theorem rangeD_len (lo : Int) (n : Nat) : (rangeD lo n).length = n := by unfold rangeD; rw [List.length_map, List.length_range]
theorem rangeD_get {lo : Int} {n i : Nat} {d : D} (h : (rangeD lo n)[i]? = some d) : i < n ∧ d = .int (lo + (i : Nat)) := by
  unfold rangeD at h
  rw [List.getElem?_map] at h
  obtain ⟨j, h1, rfl⟩ := Option.map_eq_some_iff.mp h
  have hi : i < n := by
    have := (List.getElem?_eq_some_iff.mp h1).1
    rw [List.length_range] at this
    exact this
  rw [List.getElem?_range hi] at h1
  cases h1
  exact ⟨hi, rfl⟩
theorem walk_rng {lo : Int} {n : Nat} (hn : n ≤ 1000000) : WalkD C [] [] (Itr lo n) (rangeD lo n) := by
  refine ⟨by rw [rangeD_len]; exact line_of hn, fun S2 H2 sh2 _ => ⟨by rw [rangeD_len]; exact Nat.le_refl _, fun i d hi => ?_⟩⟩
  obtain ⟨hlt, rfl⟩ := rangeD_get hi
  refine ⟨hlt, fun w H3 hy => ?_⟩
  obtain ⟨rfl, rfl⟩ := hy
  exact ⟨S2, New.refl sh2, .int _⟩
theorem sim_iR1 (h1 : SimA C A dA) : SimI C (iRng1 A) (dItA dA oRng1) := by
  intro x lx e hd ts vs σ H Q k rp h q
  refine h1 x lx e hd ts vs σ H _ _ rp h fun ys e1 ws H1 h1' hl r1 => ?_
  unfold oRng1 at h1'
  split at h1'
  · obtain ⟨S, r⟩ := id r1
    obtain ⟨v, rfl, c⟩ := DsAt.one (v := .non) (DsAt.split hl r.tmp).1
    obtain rfl := c.int_inv
    exact ⟨_, rfl, by omega, by omega, q _ e1 _ _ [] [] h1'.2.2 rfl r1.pop (walk_rng (by omega))⟩
  · exact h1'.elim
theorem sim_iR2 (h1 : SimA C A dA) : SimI C (iRng2 A) (dItA dA oRng2) := by
  intro x lx e hd ts vs σ H Q k rp h q
  refine h1 x lx e hd ts vs σ H _ _ rp h fun ys e1 ws H1 h1' hl r1 => ?_
  unfold oRng2 at h1'
  split at h1'
  · obtain ⟨S, r⟩ := id r1
    obtain ⟨v, w, rfl, c, c'⟩ := (DsAt.split hl r.tmp).1.two
    obtain rfl := c.int_inv
    obtain rfl := c'.int_inv
    obtain ⟨b1, b2, b3, b4, b5, h1'⟩ := h1'
    exact ⟨_, _, rfl, ⟨by omega, by omega, by omega, by omega⟩, q _ e1 _ _ [] [] h1' rfl r1.pop.pop (walk_rng (by omega))⟩
  · exact h1'.elim
theorem zipD_len (xs ys : List D) : (zipD xs ys).length = min xs.length ys.length := List.length_zipWith
theorem zipD_get {xs ys : List D} {i : Nat} {d : D} (h : (zipD xs ys)[i]? = some d) : ∃ x y, xs[i]? = some x ∧ ys[i]? = some y ∧ d = .tup [x, y] := by
  unfold zipD at h
  rw [List.getElem?_zipWith] at h
  cases hx : xs[i]? with
  | none => rw [hx] at h; cases h
  | some x =>
    cases hy : ys[i]? with
    | none => rw [hx, hy] at h; cases h
    | some y => rw [hx, hy] at h; cases h; exact ⟨x, y, rfl, rfl, rfl⟩
/-- a new pair at T -/
theorem pair_new {mo : Option Addr} {x y : D} {u v : V} {T : Addr} (sh : Same S H) (hT : H T = none) (dx : DAt K mo S x u) (dy : DAt K mo S y v) : ∃ S', New S H S' (upd H T (.tup [u, v])) ∧ DAt K mo S' (.tup [x, y]) (.ref T) := by
  have n := New.one sh hT (.tup [u, v])
  exact ⟨_, n, .tup (sqT upd_same) (.cons (dx.mono n.ss) (.cons (dy.mono n.ss) .nil)) (by show 2 ≤ sizeLine; decide)⟩
theorem walk_zipG {J : It} {xs ys : List D} {hs : List D} {us : List V} (hx : xs.length ≤ sizeLine)
    (st : ∀ S H, Same S H → DsAt C.R.K C.R.mo S hs us → ∃ vs ws, DsAt C.R.K C.R.mo S xs vs ∧ DsAt C.R.K C.R.mo S ys ws ∧ J.stop (min xs.length ys.length) H ∧ ∀ i u v, vs[i]? = some u → ws[i]? = some v → J.go i H ∧
      ∀ x H', J.yld i H x H' → ∃ T, x = .ref T ∧ H T = none ∧ H' = upd H T (.tup [u, v])) : WalkD C hs us J (zipD xs ys) := by
  refine ⟨by rw [zipD_len]; omega, fun S2 H2 sh2 d2 => ?_⟩
  obtain ⟨vs, ws, g1, g2, g3, g4⟩ := st S2 H2 sh2 d2
  refine ⟨by rw [zipD_len]; exact g3, fun i d hi => ?_⟩
  obtain ⟨x, y, e1, e2, rfl⟩ := zipD_get hi
  obtain ⟨u, f1, f2⟩ := g1.get e1
  obtain ⟨v, f3, f4⟩ := g2.get e2
  obtain ⟨go, yl⟩ := g4 i u v f1 f3
  refine ⟨go, fun w H' hy => ?_⟩
  obtain ⟨T, rfl, hT, rfl⟩ := yl w H' hy
  exact pair_new sh2 hT f2 f4
theorem walk_zLL {p q : Addr} {xs ys : List D} (hx : xs.length ≤ sizeLine) : WalkD C [.lst xs, .lst ys] [.ref p, .ref q] (Itz C.R.K p q) (zipD xs ys) := by
  refine walk_zipG hx fun S H sh d => ?_
  obtain ⟨v, w, e, c1, c2⟩ := d.two
  cases e
  obtain ⟨_, vs, ep, g1, g2, _⟩ := c1.lst_inv
  cases ep
  obtain ⟨_, ws, ep, g3, g4, _⟩ := c2.lst_inv
  cases ep
  have s1 := sqL (K := C.R.K) (sh _ _ g1)
  have s2 := sqL (K := C.R.K) (sh _ _ g3)
  refine ⟨vs, ws, g2, g4, ⟨vs, ws, s1, s2, by rw [g2.length, g4.length]; omega⟩, fun i u v hu hv => ⟨⟨vs, ws, u, v, s1, s2, hu, hv⟩, fun x H' hy => ?_⟩⟩
  obtain ⟨T, a, b, rfl, hT, rfl, f1, f2⟩ := hy
  have := f1 vs s1
  rw [hu] at this; cases this
  have := f2 ws s2
  rw [hv] at this; cases this
  exact ⟨T, rfl, hT, rfl⟩
theorem walk_zTT {p q : Addr} {xs ys : List D} (hx : xs.length ≤ sizeLine) : WalkD C [.tup xs, .tup ys] [.ref p, .ref q] (ItzT C.R.K p q) (zipD xs ys) := by
  refine walk_zipG hx fun S H sh d => ?_
  obtain ⟨v, w, e, c1, c2⟩ := d.two
  cases e
  obtain ⟨_, vs, ep, g1, g2, _⟩ := c1.tup_inv
  cases ep
  obtain ⟨_, ws, ep, g3, g4, _⟩ := c2.tup_inv
  cases ep
  have s1 := sh.seqT g1
  have s2 := sh.seqT g3
  refine ⟨vs, ws, g2, g4, ⟨vs, ws, s1, s2, by rw [g2.length, g4.length]; omega⟩, fun i u v hu hv => ⟨⟨vs, ws, u, v, s1, s2, hu, hv⟩, fun x H' hy => ?_⟩⟩
  obtain ⟨T, a, b, rfl, hT, rfl, f1, f2⟩ := hy
  have := f1 vs s1
  rw [hu] at this; cases this
  have := f2 ws s2
  rw [hv] at this; cases this
  exact ⟨T, rfl, hT, rfl⟩
theorem walk_zLT {p q : Addr} {xs ys : List D} (hx : xs.length ≤ sizeLine) : WalkD C [.lst xs, .tup ys] [.ref p, .ref q] (ItzM C.R.K p q) (zipD xs ys) := by
  refine walk_zipG hx fun S H sh d => ?_
  obtain ⟨v, w, e, c1, c2⟩ := d.two
  cases e
  obtain ⟨_, vs, ep, g1, g2, _⟩ := c1.lst_inv
  cases ep
  obtain ⟨_, ws, ep, g3, g4, _⟩ := c2.tup_inv
  cases ep
  have s1 := sqL (K := C.R.K) (sh _ _ g1)
  have s2 := sh.seqT g3
  refine ⟨vs, ws, g2, g4, ⟨vs, ws, s1, s2, by rw [g2.length, g4.length]⟩, fun i u v hu hv => ⟨⟨vs, ws, u, v, s1, s2, hu, hv⟩, fun x H' hy => ?_⟩⟩
  obtain ⟨T, a, b, rfl, hT, rfl, f1, f2⟩ := hy
  have := f1 vs s1
  rw [hu] at this; cases this
  have := f2 ws s2
  rw [hv] at this; cases this
  exact ⟨T, rfl, hT, rfl⟩
theorem walk_zTL {p q : Addr} {xs ys : List D} (hx : xs.length ≤ sizeLine) : WalkD C [.tup xs, .lst ys] [.ref p, .ref q] (ItzN C.R.K p q) (zipD xs ys) := by
  refine walk_zipG hx fun S H sh d => ?_
  obtain ⟨v, w, e, c1, c2⟩ := d.two
  cases e
  obtain ⟨_, vs, ep, g1, g2, _⟩ := c1.tup_inv
  cases ep
  obtain ⟨_, ws, ep, g3, g4, _⟩ := c2.lst_inv
  cases ep
  have s1 := sh.seqT g1
  have s2 := sqL (K := C.R.K) (sh _ _ g3)
  refine ⟨vs, ws, g2, g4, ⟨vs, ws, s1, s2, by rw [g2.length, g4.length]⟩, fun i u v hu hv => ⟨⟨vs, ws, u, v, s1, s2, hu, hv⟩, fun x H' hy => ?_⟩⟩
  obtain ⟨T, a, b, rfl, hT, rfl, f1, f2⟩ := hy
  have := f1 vs s1
  rw [hu] at this; cases this
  have := f2 ws s2
  rw [hv] at this; cases this
  exact ⟨T, rfl, hT, rfl⟩
theorem sim_iZA (hK : C.R.K = K) (h1 : SimA C A dA) : SimI C (iZipA K A) (dItA dA oZipA) := by
  subst hK
  intro x lx e hd ts vs σ H Q k rp h q
  refine h1 x lx e hd ts vs σ H _ _ rp h fun ys e1 ws H1 h1' hl r1 => ?_
  unfold oZipA at h1'
  split at h1'
  · rename_i xs zs
    obtain ⟨S, r⟩ := id r1
    obtain ⟨v, w, rfl, c1, c2⟩ := (DsAt.split hl r.tmp).1.two
    obtain ⟨p, us, rfl, g1, g2, g3⟩ := c1.lst_inv
    obtain ⟨p', us', rfl, f1, f2, f3⟩ := c2.lst_inv
    exact ⟨p, p', us, us', rfl, .inl ⟨sqL (r.sh _ _ g1), sqL (r.sh _ _ f1), q _ e1 _ _ [.lst xs, .lst zs] [.ref p, .ref p'] h1' rfl r1 (walk_zLL g3)⟩⟩
  · rename_i xs zs
    obtain ⟨S, r⟩ := id r1
    obtain ⟨v, w, rfl, c1, c2⟩ := (DsAt.split hl r.tmp).1.two
    obtain ⟨p, us, rfl, g1, g2, g3⟩ := c1.tup_inv
    obtain ⟨p', us', rfl, f1, f2, f3⟩ := c2.tup_inv
    exact ⟨p, p', us, us', rfl, .inr ⟨r.sh.seqT g1, r.sh.seqT f1, q _ e1 _ _ [.tup xs, .tup zs] [.ref p, .ref p'] h1' rfl r1 (walk_zTT g3)⟩⟩
  · exact h1'.elim
theorem sim_iZM (hK : C.R.K = K) (h1 : SimA C A dA) : SimI C (iZipM K A) (dItA dA oZipM) := by
  subst hK
  intro x lx e hd ts vs σ H Q k rp h q
  refine h1 x lx e hd ts vs σ H _ _ rp h fun ys e1 ws H1 h1' hl r1 => ?_
  unfold oZipM at h1'
  split at h1'
  · rename_i xs zs
    obtain ⟨S, r⟩ := id r1
    obtain ⟨v, w, rfl, c1, c2⟩ := (DsAt.split hl r.tmp).1.two
    obtain ⟨p, us, rfl, g1, g2, g3⟩ := c1.lst_inv
    obtain ⟨p', us', rfl, f1, f2, f3⟩ := c2.tup_inv
    exact ⟨p, p', us, us', rfl, sqL (r.sh _ _ g1), r.sh.seqT f1, q _ e1 _ _ [.lst xs, .tup zs] [.ref p, .ref p'] h1' rfl r1 (walk_zLT g3)⟩
  · exact h1'.elim
theorem sim_iZN (hK : C.R.K = K) (h1 : SimA C A dA) : SimI C (iZipN K A) (dItA dA oZipN) := by
  subst hK
  intro x lx e hd ts vs σ H Q k rp h q
  refine h1 x lx e hd ts vs σ H _ _ rp h fun ys e1 ws H1 h1' hl r1 => ?_
  unfold oZipN at h1'
  split at h1'
  · rename_i xs zs
    obtain ⟨S, r⟩ := id r1
    obtain ⟨v, w, rfl, c1, c2⟩ := (DsAt.split hl r.tmp).1.two
    obtain ⟨p, us, rfl, g1, g2, g3⟩ := c1.tup_inv
    obtain ⟨p', us', rfl, f1, f2, f3⟩ := c2.lst_inv
    exact ⟨p, p', us, us', rfl, r.sh.seqT g1, sqL (r.sh _ _ f1), q _ e1 _ _ [.tup xs, .lst zs] [.ref p, .ref p'] h1' rfl r1 (walk_zTL g3)⟩
  · exact h1'.elim
theorem ints_range {mo : Option Addr} (n : Nat) : DsAt K mo S (rangeD 0 n) ((List.range n).map fun (i : Nat) => V.int ((i : Nat) : Int)) := by
  unfold rangeD
  generalize List.range n = l
  induction l with
  | nil => exact .nil
  | cons i r ih =>
    refine .cons ?_ ih
    show DAt K mo S (.int (0 + (i : Int))) (.int (i : Int))
    rw [Int.zero_add]
    exact .int _
theorem range_at {n i : Nat} {u : V} (h : ((List.range n).map fun (i : Nat) => V.int ((i : Nat) : Int))[i]? = some u) : u = .int ((i : Nat) : Int) := by
  rw [List.getElem?_map] at h
  obtain ⟨j, h1, rfl⟩ := Option.map_eq_some_iff.mp h
  have hi : i < n := by
    have := (List.getElem?_eq_some_iff.mp h1).1
    rw [List.length_range] at this
    exact this
  rw [List.getElem?_range hi] at h1
  cases h1
  rfl
theorem walk_enL {p : Addr} {xs : List D} (hx : xs.length ≤ sizeLine) : WalkD C [.lst xs] [.ref p] (Ite C.R.K p) (enumD xs) := by
  refine walk_zipG (by rw [rangeD_len]; exact hx) fun S H sh d => ?_
  obtain ⟨v, e, c1⟩ := DsAt.one (v := .non) d
  cases e
  obtain ⟨_, vs, ep, g1, g2, _⟩ := c1.lst_inv
  cases ep
  have s1 := sqL (K := C.R.K) (sh _ _ g1)
  refine ⟨_, vs, ints_range _, g2, ⟨vs, s1, by rw [rangeD_len, g2.length]; omega⟩, fun i u v hu hv => ⟨⟨vs, v, s1, hv⟩, fun x H' hy => ?_⟩⟩
  obtain ⟨T, b, rfl, hT, rfl, f2⟩ := hy
  have := f2 vs s1
  rw [hv] at this; cases this
  rw [range_at hu]
  exact ⟨T, rfl, hT, rfl⟩
theorem walk_enT' {p : Addr} {xs : List D} (hx : xs.length ≤ sizeLine) : WalkD C [.tup xs] [.ref p] (IteT C.R.K p) (enumD xs) := by
  refine walk_zipG (by rw [rangeD_len]; exact hx) fun S H sh d => ?_
  obtain ⟨v, e, c1⟩ := DsAt.one (v := .non) d
  cases e
  obtain ⟨_, vs, ep, g1, g2, _⟩ := c1.tup_inv
  cases ep
  have s1 := sh.seqT g1
  refine ⟨_, vs, ints_range _, g2, ⟨vs, s1, by rw [rangeD_len, g2.length]; omega⟩, fun i u v hu hv => ⟨⟨vs, v, s1, hv⟩, fun x H' hy => ?_⟩⟩
  obtain ⟨T, b, rfl, hT, rfl, f2⟩ := hy
  have := f2 vs s1
  rw [hv] at this; cases this
  rw [range_at hu]
  exact ⟨T, rfl, hT, rfl⟩
theorem sim_iE (hK : C.R.K = K) (h1 : SimA C A dA) : SimI C (iEnum K A) (dItA dA oEnL) := by
  subst hK
  intro x lx e hd ts vs σ H Q k rp h q
  refine h1 x lx e hd ts vs σ H _ _ rp h fun ys e1 ws H1 h1' hl r1 => ?_
  unfold oEnL at h1'
  split at h1'
  · rename_i xs
    obtain ⟨S, r⟩ := id r1
    obtain ⟨v, rfl, c1⟩ := DsAt.one (v := .non) (DsAt.split hl r.tmp).1
    obtain ⟨p, us, rfl, g1, g2, g3⟩ := c1.lst_inv
    exact ⟨p, us, rfl, sqL (r.sh _ _ g1), q _ e1 _ _ [.lst xs] [.ref p] h1' rfl r1 (walk_enL g3)⟩
  · exact h1'.elim
theorem sim_iET (hK : C.R.K = K) (h1 : SimA C A dA) : SimI C (iEnumT K A) (dItA dA oEnT) := by
  subst hK
  intro x lx e hd ts vs σ H Q k rp h q
  refine h1 x lx e hd ts vs σ H _ _ rp h fun ys e1 ws H1 h1' hl r1 => ?_
  unfold oEnT at h1'
  split at h1'
  · rename_i xs
    obtain ⟨S, r⟩ := id r1
    obtain ⟨v, rfl, c1⟩ := DsAt.one (v := .non) (DsAt.split hl r.tmp).1
    obtain ⟨p, us, rfl, g1, g2, g3⟩ := c1.tup_inv
    exact ⟨p, us, rfl, r.sh.seqT g1, q _ e1 _ _ [.tup xs] [.ref p] h1' rfl r1 (walk_enT' g3)⟩
  · exact h1'.elim
theorem sim_iS (h1 : SimE C ta a) : SimI C (iStr ta) (dIt a oStr) := by
  intro x lx e hd ts vs σ H Q k rp h q
  refine h1 x lx e hd ts vs σ H _ _ rp h fun y e1 v H1 h1' r1 => ?_
  unfold oStr at h1'
  split at h1'
  · rename_i z he
    cases he
    obtain ⟨S, r⟩ := id r1
    cases r.tmp with
    | cons c t =>
      obtain rfl := c.str_inv
      refine ⟨z, rfl, q _ e1 _ _ [] [] h1'.2 rfl r1.pop ⟨?_, fun S2 H2 sh2 _ => ⟨?_, fun i d hi => ?_⟩⟩⟩
      · unfold charsD
        rw [List.length_map, Array.length_toList]
        exact line_of h1'.1
      · unfold charsD
        rw [List.length_map, Array.length_toList]
        exact Nat.le_refl _
      · unfold charsD at hi
        rw [List.getElem?_map] at hi
        obtain ⟨c, h1, rfl⟩ := Option.map_eq_some_iff.mp hi
        rw [Array.getElem?_toList] at h1
        have hlt : i < z.cps.size := (Array.getElem?_eq_some_iff.mp h1).1
        refine ⟨hlt, fun w H3 hy => ?_⟩
        obtain ⟨rfl, c', e1, rfl⟩ := hy
        rw [h1] at e1
        cases e1
        exact ⟨S2, New.refl sh2, .str _⟩
  · exact h1'.elim
end
end Pu

namespace Pu
open PySem PySem.Spec PyProof.Rows L2 Gd RZ
/-! ### dicts with keys that are numbers or texts -/
def keyD : D → Option Key
  | .int i => some (.inl i)
  | .str x => some (.inr x)
  | _ => none
def dK : Key → D
  | .inl i => .int i
  | .inr x => .str x
def valD (kvs : List (Key × D)) (k : Key) : Option D := (kvs.find? fun kv => decide (kv.1 = k)).map (·.2)
def putD (kvs : List (Key × D)) (k : Key) (v : D) : List (Key × D) :=
  if (kvs.any fun kv => decide (kv.1 = k)) = true then kvs.map (fun kv => if kv.1 = k then (kv.1, v) else kv) else kvs ++ [(k, v)]
def mergeD (kvs more : List (Key × D)) : List (Key × D) := more.foldl (fun acc kv => putD acc kv.1 kv.2) kvs
def onK (k : Key → Prop) : Option Key → Prop
  | some z => k z
  | none => False
def onDic (k : List (Key × D) → Prop) : D → Prop
  | .dic kvs => k kvs
  | _ => False
def dDGet (a b : DE) : DE := fun x e k => a x e fun y e1 => b x e1 fun z e2 => onDic (fun kvs => onK (fun key => onS (fun w => k w e2) (valD kvs key)) (keyD z)) y
def dDIn (neg : Bool) (b a : DE) : DE := fun x e k => b x e fun z e1 => a x e1 fun y e2 => onDic (fun kvs => onK (fun key => k (.bl (if neg then !(valD kvs key).isSome else (valD kvs key).isSome)) e2) (keyD z)) y
def slotDic (e : Fr) (i : Nat) (k : List (Key × D) → Prop) : Prop := match e.g[i]? with
  | some (.k kvs) => k kvs
  | some (.d (.dic kvs)) => k kvs
  | _ => False
def dDGetV (i : Nat) (b : DE) : DE := fun x e k => slotDic e i fun _ => b x e fun z e2 => slotDic e2 i fun kvs => onK (fun key => onS (fun w => k w e2) (valD kvs key)) (keyD z)
def dDInV (neg : Bool) (b : DE) (i : Nat) : DE := fun x e k => b x e fun z e2 => slotDic e2 i fun kvs => onK (fun key => k (.bl (if neg then !(valD kvs key).isSome else (valD kvs key).isSome)) e2) (keyD z)
def dDPut (i : Nat) (b v : DE) : DS := fun x k e => v x e fun y e1 => match e1.g[i]? with
  | some (.k _) => b x e1 fun z e2 => match e2.g[i]? with
    | some (.k kvs) => kvs.length < 1000000 ∧ onK (fun key => k.nx { e2 with g := e2.g.set i (.k (putD kvs key y)) }) (keyD z)
    | _ => False
  | _ => False
section
variable {K : PySem.W.Frag} {mo : Option Addr} {S : Hp}
theorem keyD_at {z : D} {w : V} {key : Key} (h : DAt K mo S z w) (e : keyD z = some key) : w = kV key := by
  cases h <;> first | (cases e; rfl) | cases e
theorem kv_any {kvs : List (Key × D)} {kv' : List (Key × V)} (h : KvAt K mo S kvs kv') (key : Key) : (kv'.any fun kv => decide (kv.1 = key)) = kvs.any fun kv => decide (kv.1 = key) := by
  induction kvs generalizing kv' with
  | nil => cases h; rfl
  | cons p r ih =>
    cases h with
    | cons a b => rw [List.any_cons, List.any_cons, ih b]
theorem kv_val {kvs : List (Key × D)} {kv' : List (Key × V)} (h : KvAt K mo S kvs kv') (key : Key) : (valD kvs key = none ∧ valV kv' key = none) ∨ ∃ z w, valD kvs key = some z ∧ valV kv' key = some w ∧ DAt K mo S z w := by
  induction kvs generalizing kv' with
  | nil => cases h; exact .inl ⟨rfl, rfl⟩
  | cons p r ih =>
    cases h with
    | @cons k x v xs vs a b =>
      by_cases c : k = key
      · refine .inr ⟨x, v, ?_, ?_, a⟩
        · simp [valD, List.find?_cons, c]
        · simp [valV, List.find?_cons, c]
      · have e1 : valD ((k, x) :: r) key = valD r key := by simp [valD, List.find?_cons, c]
        have e2 : valV ((k, v) :: vs) key = valV vs key := by simp [valV, List.find?_cons, c]
        rw [e1, e2]
        exact ih b
theorem kv_append {a b : List (Key × D)} {a' b' : List (Key × V)} (h : KvAt K mo S a a') (h' : KvAt K mo S b b') : KvAt K mo S (a ++ b) (a' ++ b') := by
  induction a generalizing a' with
  | nil => cases h; exact h'
  | cons p r ih =>
    cases h with
    | cons x y => exact .cons x (ih y)
theorem kv_put {kvs : List (Key × D)} {kv' : List (Key × V)} (h : KvAt K mo S kvs kv') (key : Key) {z : D} {w : V} (d : DAt K mo S z w) : KvAt K mo S (putD kvs key z) (putK kv' key w) := by
  unfold putD putK
  rw [kv_any h key]
  split
  · rename_i hh; clear hh
    induction kvs generalizing kv' with
    | nil => cases h; exact .nil
    | cons p r ih =>
      cases h with
      | @cons k x v xs vs a b =>
        rw [List.map_cons, List.map_cons]
        by_cases c : k = key
        · rw [if_pos c, if_pos c]
          exact .cons d (ih b)
        · rw [if_neg c, if_neg c]
          exact .cons a (ih b)
  · exact kv_append h (.cons d .nil)
theorem putD_len (kvs : List (Key × D)) (key : Key) (z : D) : (putD kvs key z).length ≤ kvs.length + 1 := by
  unfold putD
  split
  · rw [List.length_map]; omega
  · rw [List.length_append]; exact Nat.le_refl _
end
section
variable {C : Ct} {R : Root} {hd : List (Addr × HO)} {e : Fr} {ts : List D} {vs : List V} {σ : L2.St} {H S : Hp} {te ta tb tc tv : TE} {a b c v : DE} {A : TA} {dA : DA} {K : PySem.W.Frag}
theorem sim_dget (h1 : SimE C ta a) (h2 : SimE C tb b) : SimE C (tDGet ta tb) (dDGet a b) := by
  intro x lx e hd ts vs σ H Q k rp h q
  refine h1 x lx e hd ts vs σ H _ _ rp h fun y e1 v H1 h1' r1 => h2 x lx e1 hd _ _ σ H1 _ _ r1 h1' fun z e2 w H2 h2' r2 => ?_
  obtain ⟨S, r2⟩ := r2
  cases r2.tmp with
  | cons c2 r' =>
    cases r' with
    | cons c1 r'' =>
      cases c1 with
      | @dic p kvs kv' g1 g2 g3 =>
        cases e1 : keyD z with
        | none => rw [e1] at h2'; exact h2'.elim
        | some key =>
          rw [e1] at h2'
          rcases kv_val g2 key with ⟨f1, _⟩ | ⟨z', w', f1, f2, f3⟩
          · have h2' : onS _ (valD kvs key) := h2'
            rw [f1] at h2'; exact h2'.elim
          · have h2' : onS _ (valD kvs key) := h2'
            rw [f1] at h2'
            refine ⟨p, w', rfl, .inl ⟨kv', key, .inl (r2.sh _ _ g1), keyD_at c2 e1, f2.symm⟩, q _ _ _ _ h2' ⟨S, r2.temps (.cons f3 r'')⟩⟩
      | _ => exact h2'.elim
theorem slotDic_at {e : Fr} {i : Nat} {k : List (Key × D) → Prop} (r : RepS R hd e ts vs σ H S) (h : slotDic e i k) : ∃ p kvs kv', σ[i]? = some (some (.ref p)) ∧ H p = some (.dK kv') ∧ KvAt R.K R.mo S kvs kv' ∧ k kvs := by
  unfold slotDic at h
  split at h
  · rename_i kvs hw
    obtain ⟨p, kv', h1, h2, h3, _⟩ := r.slots i _ hw
    exact ⟨p, _, kv', h1, h2, h3, h⟩
  · rename_i kvs hw
    obtain ⟨v, h1, h2⟩ := r.slots i _ hw
    cases h2 with
    | dic g1 g2 g3 => exact ⟨_, _, _, h1, r.sh _ _ g1, g2, h⟩
  · exact h.elim
theorem sim_dgetV {i : Nat} (h2 : SimE C tb b) : SimE C (tDGet (tVar i) tb) (dDGetV i b) := by
  intro x lx e hd ts vs σ H Q k rp h q
  obtain ⟨S, r⟩ := id rp
  obtain ⟨p, kvs, kv', e0, _, _, h⟩ := slotDic_at r h
  refine ⟨_, e0, h2 x lx e hd _ _ σ H _ _ rp h fun z e2 w H2 h2' r2 => ?_⟩
  obtain ⟨S2, r2⟩ := r2
  obtain ⟨p', kvs, kv', e0', g1, g2, h2'⟩ := slotDic_at r2 h2'
  rw [e0] at e0'
  cases e0'
  cases r2.tmp with
  | cons c2 r'' =>
    cases e1 : keyD z with
    | none => rw [e1] at h2'; exact h2'.elim
    | some key =>
      rw [e1] at h2'
      rcases kv_val g2 key with ⟨f1, _⟩ | ⟨z', w', f1, f2, f3⟩
      · have h2' : onS _ (valD kvs key) := h2'
        rw [f1] at h2'; exact h2'.elim
      · have h2' : onS _ (valD kvs key) := h2'
        rw [f1] at h2'
        refine ⟨p, w', rfl, .inl ⟨kv', key, .inl g1, keyD_at c2 e1, f2.symm⟩, q _ _ _ _ h2' ⟨S2, r2.temps (.cons f3 r'')⟩⟩
theorem some_iff {kvs : List (Key × D)} {kv' : List (Key × V)} {mo : Option Addr} (h : KvAt K mo S kvs kv') (key : Key) : (valV kv' key).isSome = (valD kvs key).isSome := by
  rcases kv_val h key with ⟨f1, f2⟩ | ⟨_, _, f1, f2, _⟩ <;> rw [f1, f2] <;> rfl
theorem sim_dinV {i : Nat} (h2 : SimE C tb b) : SimE C (tDIn tb (tVar i)) (dDInV false b i) := by
  intro x lx e hd ts vs σ H Q k rp h q
  refine h2 x lx e hd _ _ σ H _ _ rp h fun z e2 w H2 h2' r2 => ?_
  obtain ⟨S2, r2⟩ := r2
  obtain ⟨p', kvs, kv', e0', g1, g2, h2'⟩ := slotDic_at r2 h2'
  cases r2.tmp with
  | cons c2 r'' =>
    cases e1 : keyD z with
    | none => rw [e1] at h2'; exact h2'.elim
    | some key =>
      rw [e1] at h2'
      refine ⟨_, e0', p', _, rfl, .inl ⟨kv', key, .inl g1, keyD_at c2 e1, rfl⟩, ?_⟩
      rw [some_iff g2]
      exact q _ _ _ _ h2' ⟨S2, r2.temps (.cons (.bl _) r'')⟩
theorem sim_dninV {i : Nat} (h2 : SimE C tb b) : SimE C (tDNotIn tb (tVar i)) (dDInV true b i) := by
  intro x lx e hd ts vs σ H Q k rp h q
  refine h2 x lx e hd _ _ σ H _ _ rp h fun z e2 w H2 h2' r2 => ?_
  obtain ⟨S2, r2⟩ := r2
  obtain ⟨p', kvs, kv', e0', g1, g2, h2'⟩ := slotDic_at r2 h2'
  cases r2.tmp with
  | cons c2 r'' =>
    cases e1 : keyD z with
    | none => rw [e1] at h2'; exact h2'.elim
    | some key =>
      rw [e1] at h2'
      refine ⟨_, e0', p', _, rfl, .inl ⟨kv', key, .inl g1, keyD_at c2 e1, rfl⟩, ?_⟩
      rw [some_iff g2]
      exact q _ _ _ _ h2' ⟨S2, r2.temps (.cons (.bl _) r'')⟩
/-- d[k] = v, d a slot's own -/
theorem sim_dput {i : Nat} (h1 : SimE C tv v) (h2 : SimE C tb b) : SimS C (sDPut (tVar i) tb tv) (dDPut i b v) := by
  intro x lx e hd ts vs σ H D' k rp L h
  refine h1 x lx e hd ts vs σ H _ _ rp h fun y e1 u H1 h1' r1 => ?_
  split at h1'
  · rename_i kv0 hw0
    obtain ⟨S1, r1s⟩ := id r1
    obtain ⟨p, kv', f1, f2, f3, f4⟩ := r1s.slots i _ hw0
    refine ⟨_, f1, h2 x lx e1 hd _ _ σ H1 _ _ r1 h1' fun z e2 w H2 h2' r2 => ?_⟩
    split at h2'
    · rename_i kvs hw
      obtain ⟨S2, r2⟩ := r2
      obtain ⟨p', kv2, g1, g2, g3, g4⟩ := r2.slots i _ hw
      rw [f1] at g1
      cases g1
      cases r2.tmp with
      | cons cz r' =>
        cases r' with
        | cons cy r'' =>
          obtain ⟨hl, h2'⟩ := h2'
          cases e1 : keyD z with
          | none => rw [e1] at h2'; exact h2'.elim
          | some key =>
            rw [e1] at h2'
            refine ⟨p, _, rfl, .inl ⟨kv2, key, g2, keyD_at cz e1, ?_, rfl⟩, L.nx _ _ _ ⟨S2, (r2.temps r'').own_put (w' := .k (putD kvs key y)) hw rfl f1 rfl fun H' h' => ⟨p, _, rfl, h', kv_put g3 key cy, ?_⟩⟩ h2'⟩
            · rw [← g3.length, sizeLine_eq]; omega
            · have := putD_len kvs key y
              rw [sizeLine_eq]; omega
    · exact h2'.elim
  · exact h1'.elim
/-! ### a new dict, for a slot of one's own or as data -/
abbrev DKF := DX → Fr → (List (Key × D) → Fr → Prop) → Prop
def dKr (a : DKF) : DE := fun x e k => a x e fun ys e1 => k (.dic ys) e1
def dAsgK (i : Nat) (a : DKF) : DS := fun x k e => a x e fun ys e1 => k.nx { e1 with g := e1.g.set i (.k ys) }
def kNew : DKF := fun _ e k => k [] e
def keysD : List D → Option (List Key)
  | [] => some []
  | z :: r => (keyD z).bind fun key => (keysD r).map (key :: ·)
def kZip (a : DA) : DKF := fun x e k => a x e fun ys e1 => match ys with
  | [.lst xs, .lst zs] => xs.length = zs.length ∧ ∃ ks, keysD xs = some ks ∧ k (mergeD [] (ks.zip zs)) e1
  | [.lst xs, .tup zs] => xs.length = zs.length ∧ ∃ ks, keysD xs = some ks ∧ k (mergeD [] (ks.zip zs)) e1
  | [.tup xs, .lst zs] => xs.length = zs.length ∧ ∃ ks, keysD xs = some ks ∧ k (mergeD [] (ks.zip zs)) e1
  | [.tup xs, .tup zs] => xs.length = zs.length ∧ ∃ ks, keysD xs = some ks ∧ k (mergeD [] (ks.zip zs)) e1
  | _ => False
def SimKF (C : Ct) (t : TE) (d : DKF) : Prop := ∀ x, LinkX C x → ∀ (e : Fr) (hd : List (Addr × HO)) (ts : List D) (vs : List V) (σ : L2.St) (H : Hp) (Q : VK) (k : List (Key × D) → Fr → Prop), Rep C.R hd e ts vs σ H →
  d x e k → (∀ ys e' p acc H' S, k ys e' → ys.length ≤ sizeLine → KvAt C.R.K C.R.mo S ys acc → (∀ q u, (q, u) ∈ hd → q ≠ p) → RepS C.R ((p, .dK acc) :: hd) e' ts vs σ H' S → Q (.ref p) H') → t σ H Q
theorem sim_kr {f : DKF} (h1 : SimKF C ta f) : SimE C ta (dKr f) := by
  intro x lx e hd ts vs σ H Q k rp h q
  refine h1 x lx e hd ts vs σ H _ _ rp h fun ys e1 p acc H1 S k1 hl ds np rs => ?_
  obtain ⟨i1, i2, i3, i4⟩ := rs.hid p _ List.mem_cons_self
  obtain ⟨ss, r2⟩ := rs.show (hd' := hd) i2 i3 i1 (fun _ z => (nomatch z)) i4 fun q u hq => ⟨List.mem_cons_of_mem _ hq, np q u hq⟩
  exact q _ _ _ _ k1 ⟨_, r2.push (.dic upd_same (ds.mono ss) hl)⟩
theorem sim_asgK {i : Nat} {f : DKF} (h1 : SimKF C ta f) : SimS C (tAsg ta (gName i)) (dAsgK i f) := by
  intro x lx e hd ts vs σ H D' k rp L h
  refine h1 x lx e hd ts vs σ H _ _ rp h fun ys e1 p acc H1 S k1 hl ds np rs => ?_
  obtain ⟨i1, _⟩ := rs.hid p _ List.mem_cons_self
  exact L.nx _ _ _ ⟨S, rs.adopt (w := .k ys) np rfl i ⟨p, acc, rfl, i1, ds, hl⟩⟩ k1
theorem simk_new : SimKF C tDNewK kNew := by
  intro x lx e hd ts vs σ H Q k rp h q
  obtain ⟨S, r⟩ := rp
  exact fun p hp => q [] e p [] _ S h (Nat.zero_le _) .nil (new_hid r hp) (r.hide hp _)
theorem keys_at {mo : Option Addr} : ∀ {xs : List D} {ks : List Key} {vs : List V}, keysD xs = some ks → DsAt K mo S xs vs → vs = ks.map kV
  | [], _, _, e, .nil => by cases e; rfl
  | z :: r, ks, _, e, .cons a b => by
    obtain ⟨key, e1, e2⟩ := Option.bind_eq_some_iff.mp (show (keyD z).bind (fun key => (keysD r).map (key :: ·)) = some ks from e)
    obtain ⟨ms, e3, rfl⟩ := Option.map_eq_some_iff.mp e2
    rw [keyD_at a e1, keys_at e3 b]
    rfl
theorem keys_len : ∀ {xs : List D} {ks : List Key}, keysD xs = some ks → ks.length = xs.length
  | [], _, e => by cases e; rfl
  | z :: r, ks, e => by
    obtain ⟨key, e1, e2⟩ := Option.bind_eq_some_iff.mp (show (keyD z).bind (fun key => (keysD r).map (key :: ·)) = some ks from e)
    obtain ⟨ms, e3, rfl⟩ := Option.map_eq_some_iff.mp e2
    rw [List.length_cons, List.length_cons, keys_len e3]
theorem merge_at {mo : Option Addr} {ks : List Key} {zs : List D} {ws : List V} (h : DsAt K mo S zs ws) : ∀ {acc : List (Key × D)} {acc' : List (Key × V)}, KvAt K mo S acc acc' → KvAt K mo S (mergeD acc (ks.zip zs)) (mergeK acc' (ks.zip ws)) := by
  induction ks generalizing zs ws with
  | nil => intro acc acc' ha; exact ha
  | cons key r ih =>
    intro acc acc' ha
    cases h with
    | nil => exact ha
    | cons a b => exact ih b (kv_put ha key a)
theorem mergeD_len (more : List (Key × D)) : ∀ acc : List (Key × D), (mergeD acc more).length ≤ acc.length + more.length := by
  induction more with
  | nil => intro acc; exact Nat.le_refl _
  | cons p r ih =>
    intro acc
    have h1 := ih (putD acc p.1 p.2)
    have h2 := putD_len acc p.1 p.2
    show (mergeD (putD acc p.1 p.2) r).length ≤ acc.length + (r.length + 1)
    omega
theorem simk_zip (hK : C.R.K = K) (h1 : SimA C A dA) : SimKF C (tDictZip K A) (kZip dA) := by
  subst hK
  intro x lx e hd ts vs σ H Q k rp h q
  refine h1 x lx e hd ts vs σ H _ _ rp h fun ys e1 ws H1 h1' hl r1 => ?_
  obtain ⟨S, r1⟩ := r1
  obtain ⟨t1, t2⟩ := DsAt.split hl r1.tmp
  have fin : ∀ {p p' : Addr} {xs zs : List D} {us us' : List V}, SqA C.R.K H1 p us → SqA C.R.K H1 p' us' → DsAt C.R.K C.R.mo S xs us → DsAt C.R.K C.R.mo S zs us' → zs.length ≤ sizeLine → (xs.length = zs.length ∧ ∃ ks, keysD xs = some ks ∧ k (mergeD [] (ks.zip zs)) e1) →
      ∃ (a b : Addr) (ks : List Key) (ys : List V), [V.ref p, V.ref p'] = [.ref a, .ref b] ∧ SqA C.R.K H1 a (ks.map kV) ∧ SqA C.R.K H1 b ys ∧ ks.length = ys.length ∧ ∀ p, H1 p = none → Q (.ref p) (upd H1 p (.dK (mergeK [] (ks.zip ys)))) := by
    rintro p p' xs zs us us' s1 s2 d1 d2 hz ⟨hl, ks, hk, h⟩
    refine ⟨p, p', ks, us', rfl, by rw [← keys_at hk d1]; exact s1, s2, by rw [keys_len hk, hl, d2.length], fun r hr => ?_⟩
    refine q _ e1 r _ _ S h ?_ (merge_at d2 .nil) (new_hid r1 hr) ((r1.temps t2).hide hr _)
    have := mergeD_len (ks.zip zs) []
    rw [List.length_zip] at this
    have h0 : ([] : List (Key × D)).length = 0 := rfl
    omega
  unfold kZip at h
  split at h1'
  · obtain ⟨v, w, rfl, c1, c2⟩ := t1.two
    obtain ⟨p, us, rfl, g1, g2, g3⟩ := c1.lst_inv
    obtain ⟨p', us', rfl, f1, f2, f3⟩ := c2.lst_inv
    exact fin (.inl (sqL (r1.sh _ _ g1))) (.inl (sqL (r1.sh _ _ f1))) g2 f2 f3 h1'
  · obtain ⟨v, w, rfl, c1, c2⟩ := t1.two
    obtain ⟨p, us, rfl, g1, g2, g3⟩ := c1.lst_inv
    obtain ⟨p', us', rfl, f1, f2, f3⟩ := c2.tup_inv
    exact fin (.inl (sqL (r1.sh _ _ g1))) (.inr (r1.sh.seqT f1)) g2 f2 f3 h1'
  · obtain ⟨v, w, rfl, c1, c2⟩ := t1.two
    obtain ⟨p, us, rfl, g1, g2, g3⟩ := c1.tup_inv
    obtain ⟨p', us', rfl, f1, f2, f3⟩ := c2.lst_inv
    exact fin (.inr (r1.sh.seqT g1)) (.inl (sqL (r1.sh _ _ f1))) g2 f2 f3 h1'
  · obtain ⟨v, w, rfl, c1, c2⟩ := t1.two
    obtain ⟨p, us, rfl, g1, g2, g3⟩ := c1.tup_inv
    obtain ⟨p', us', rfl, f1, f2, f3⟩ := c2.tup_inv
    exact fin (.inr (r1.sh.seqT g1)) (.inr (r1.sh.seqT f1)) g2 f2 f3 h1'
  · exact h1'.elim
/-- list(d): its keys -/
def oListDic : List D → (List D → Prop) → Prop := fun xs k => match xs with
  | [.dic kvs] => k (kvs.map fun kv => dK kv.1)
  | _ => False
theorem dK_at {mo : Option Addr} (key : Key) : DAt K mo S (dK key) (kV key) := by
  cases key with
  | inl i => exact .int i
  | inr x => exact .str x
theorem dKs_at {mo : Option Addr} {kvs : List (Key × D)} {kv' : List (Key × V)} (h : KvAt K mo S kvs kv') : DsAt K mo S (kvs.map fun kv => dK kv.1) (kv'.map fun kv => kV kv.1) := by
  induction kvs generalizing kv' with
  | nil => cases h; exact .nil
  | cons p r ih =>
    cases h with
    | cons a b => exact .cons (dK_at _) (ih b)
theorem simbf_listDic : SimBF C rListD oListDic := by
  intro xs us S H Q k sh ds h q
  unfold oListDic at h
  split at h
  · obtain ⟨v, rfl, d⟩ := DsAt.one (v := .non) ds
    cases d with
    | dic h1 h2 h3 => exact ⟨_, _, rfl, sh _ _ h1, fun r hr => q _ _ r h (by rw [List.length_map]; exact h3) (dKs_at h2) hr⟩
  · exact h.elim
def oLenDic : List D → (D → Prop) → Prop := fun xs k => match xs with
  | [.dic kvs] => k (.int kvs.length)
  | _ => False
theorem simb_lenDic : SimB C (fun xs H Q => ∃ a kvs, xs = [V.ref a] ∧ H a = some (.dK kvs) ∧ Q (.int kvs.length) H) oLenDic := by
  intro xs us S H Q k sh ds h q
  unfold oLenDic at h
  split at h
  · obtain ⟨v, rfl, d⟩ := DsAt.one (v := .non) ds
    cases d with
    | dic h1 h2 h3 => exact ⟨_, _, rfl, sh _ _ h1, by rw [← h2.length]; exact q _ _ S H h (New.refl sh) (.int _)⟩
  · exact h.elim
end
end Pu

namespace Gd
open PySem PySem.Spec PyProof.Rows L2
def rExtU (K : PySem.W.Frag) : V → List V → Hp → VK → Prop := fun x vs H Q => ∃ l b xs zs, x = .ref l ∧ vs = [.ref b] ∧ H l = some (.lst xs) ∧ SqT K H b zs ∧
  xs.length + zs.length ≤ sizeLine ∧ Q .non (upd H l (.lst (xs ++ zs)))
theorem mt_extU {X : Cx} : MtM X "list.extend" (rExtU X.K) := by
  intro pins s σ H x vs v us Q I rx rv h
  obtain ⟨l, b, xs, zs, rfl, rfl, hH, hB, hz, q⟩ := h
  cases rx
  obtain ⟨u, rfl, ru⟩ := rv.one
  cases ru
  obtain ⟨z, its, n, r, hl, e⟩ := I.lstM hH
  obtain ⟨its2, r2, ⟨ob, ho, hc, n2, hd⟩, _⟩ := I.tuple hB
  have r2l := r2.length
  have fit : its.toArray.size + its2.toArray.size ≤ sizeLine := by
    rw [List.size_toArray, List.size_toArray]
    have := r.length
    omega
  have short : ¬ (!its.toArray.isEmpty && Builtin.List.listTooLong (its.toArray.size + its2.toArray.size)) = true := by
    rw [notLongL fit, Bool.and_false]
    exact Bool.false_ne_true
  obtain ⟨cls, dd, data, sl⟩ := ob
  simp only at hc hd
  subst hc hd
  refine call_meets F.slot_list_extend ⟨_, e, rfl⟩ F.entry_list_extend (F.args_list_extend_2 _ _)
    (extend_tup l its.toArray n b its2.toArray n2 dd sl short (by rw [List.size_toArray]; omega) (by omega)) ⟨e, ho, ?_⟩
  refine ⟨.non, _, I.lset (its' := its ++ its2) hH e (by simp) (r.append r2) ?_, rfl, q⟩
  rw [List.length_append]
  have := r.length
  omega
theorem extUK {X : Cx} (K : PySem.W.Frag) (h : X.K = K := by rfl) : MtM X "list.extend" (rExtU K) := h ▸ mt_extU
theorem sl_tupAK {X : Cx} (K : PySem.W.Frag) (h : X.K = K := by rfl) : SlR X (rSlA K) := h ▸ sl_tupA
theorem op_catAK {X : Cx} (K : PySem.W.Frag) (h : X.K = K := by rfl) : OpR X (binaryOp .Add) (rCatA K) := h ▸ op_catA
theorem anyK {X : Cx} (K : PySem.W.Frag) (hc : X.calm = true := by rfl) (h : X.K = K := by rfl) : CallR X (.builtin "any") (rAny K) := h ▸ cr_any hc
end Gd
namespace Pu
open PySem PySem.Spec PyProof.Rows L2 Gd RZ
def slotLst (e : Fr) (i : Nat) (k : List D → Prop) : Prop := match e.g[i]? with
  | some (.l xs) => k xs
  | some (.d (.lst xs)) => k xs
  | _ => False
def slotSeq (e : Fr) (i : Nat) (k : List D → Prop) : Prop := match e.g[i]? with
  | some (.l xs) => k xs
  | some (.d (.lst xs)) => k xs
  | some (.d (.tup xs)) => k xs
  | _ => False
def dLenV (i : Nat) : DE := fun _ e k => slotSeq e i fun xs => k (.int xs.length) e
def dIxV (i : Nat) (b : DE) : DE := fun x e k => slotLst e i fun _ => b x e fun y e1 => slotLst e1 i fun xs => isInt (fun j => onS (fun z => k z e1) (atI xs j)) y
def dInV (neg : Bool) (a : DE) (i : Nat) : DE := fun x e k => a x e fun y e1 => slotSeq e1 i fun xs => flatD y = true ∧ xs.all flatD = true ∧ k (.bl (if neg then !inD y xs else inD y xs)) e1
def oRevT : D → (D → Prop) → Prop := fun x k => match x with
  | .tup xs => k (.tup xs.reverse)
  | _ => False
def dExt (i : Nat) (a : DE) : DE := fun x e k => match e.g[i]? with
  | some (.l _) => a x e fun y e1 => match e1.g[i]?, y with
    | some (.l ys), .tup zs => ys.length + zs.length ≤ 1000000 ∧ k .non { e1 with g := e1.g.set i (.l (ys ++ zs)) }
    | _, _ => False
  | _ => False
def dPopAt (i : Nat) (a : DE) : DE := fun x e k => match e.g[i]? with
  | some (.l _) => a x e fun y e1 => match e1.g[i]?, y with
    | some (.l ys), .int j => 0 ≤ j ∧ j < 1000000 ∧ onS (fun z => k z { e1 with g := e1.g.set i (.l (ys.eraseIdx j.toNat)) }) ys[j.toNat]?
    | _, _ => False
  | _ => False
def oMaxD : List D → List D → (D → Prop) → Prop := fun xs zs k => match xs, zs with
  | [.lst ys], [d] => ∃ ns, intsD ys = some ns ∧ (ns = [] → k d) ∧ ∀ m, m ∈ ns → (∀ y, y ∈ ns → y ≤ m) → k (.int m)
  | _, _ => False
def oMinD : List D → List D → (D → Prop) → Prop := fun xs zs k => match xs, zs with
  | [.lst ys], [d] => ∃ ns, intsD ys = some ns ∧ (ns = [] → k d) ∧ ∀ m, m ∈ ns → (∀ y, y ∈ ns → m ≤ y) → k (.int m)
  | _, _ => False
def oMax : List D → (D → Prop) → Prop := fun xs k => match xs with
  | [.lst ys] => ∃ ns, intsD ys = some ns ∧ 0 < ns.length ∧ ∀ m, m ∈ ns → (∀ y, y ∈ ns → y ≤ m) → k (.int m)
  | _ => False
def oMin : List D → (D → Prop) → Prop := fun xs k => match xs with
  | [.lst ys] => ∃ ns, intsD ys = some ns ∧ 0 < ns.length ∧ ∀ m, m ∈ ns → (∀ y, y ∈ ns → m ≤ y) → k (.int m)
  | _ => False
def oIsi : List D → (D → Prop) → Prop := fun xs k => match xs with
  | [x, .raw (.ty n)] => ∃ t b, tyD x = some t ∧ kitB t n = some b ∧ k (.bl b)
  | _ => False
def dCBK (r : List D → List D → (D → Prop) → Prop) (a b : DA) : DE := fun x e k => a x e fun ys e1 => b x e1 fun zs e2 => r ys zs fun u => k u e2
/-- raise X(v) -/
def dRaise (c : Addr) (f : Str) (a : DE) : DS := fun x _ e => a x e fun y e1 => x c f y e1
/-- set of a list, its size -/
def dLenSet (a : DE) : DE := fun x e k => a x e fun y e1 => match y with
  | .lst ys => ∃ ns, intsD ys = some ns ∧ ns.length ≤ 4000 ∧ k (.int ((firstMet (fun i => ns.getD i 0) ns.length).length : Nat)) e1
  | _ => False
section
variable {C : Ct} {R : Root} {hd : List (Addr × HO)} {e : Fr} {ts : List D} {vs : List V} {σ : L2.St} {H S : Hp} {te ta tb tc tv : TE} {a b c v : DE} {A B : TA} {dA dB : DA} {K : PySem.W.Frag}
theorem slotLst_at {i : Nat} {k : List D → Prop} (r : RepS R hd e ts vs σ H S) (h : slotLst e i k) : ∃ p xs us, σ[i]? = some (some (.ref p)) ∧ H p = some (.lst us) ∧ DsAt R.K R.mo S xs us ∧ k xs := by
  unfold slotLst at h
  split at h
  · rename_i xs hw
    obtain ⟨p, us, h1, h2, h3, _⟩ := r.slots i _ hw
    exact ⟨p, _, us, h1, h2, h3, h⟩
  · rename_i xs hw
    obtain ⟨v, h1, h2⟩ := r.slots i _ hw
    obtain ⟨p, us, rfl, g1, g2, g3⟩ := h2.lst_inv
    exact ⟨p, _, us, h1, r.sh _ _ g1, g2, h⟩
  · exact h.elim
theorem slotSeq_at {i : Nat} {k : List D → Prop} (r : RepS R hd e ts vs σ H S) (h : slotSeq e i k) : ∃ p xs us, σ[i]? = some (some (.ref p)) ∧ (SqL R.K H p us ∨ SqT R.K H p us) ∧ DsAt R.K R.mo S xs us ∧ k xs := by
  unfold slotSeq at h
  split at h
  · rename_i xs hw
    obtain ⟨p, us, h1, h2, h3, _⟩ := r.slots i _ hw
    exact ⟨p, _, us, h1, .inl (sqL h2), h3, h⟩
  · rename_i xs hw
    obtain ⟨v, h1, h2⟩ := r.slots i _ hw
    obtain ⟨p, us, rfl, g1, g2, g3⟩ := h2.lst_inv
    exact ⟨p, _, us, h1, .inl (sqL (r.sh _ _ g1)), g2, h⟩
  · rename_i xs hw
    obtain ⟨v, h1, h2⟩ := r.slots i _ hw
    obtain ⟨p, us, rfl, g1, g2, g3⟩ := h2.tup_inv
    exact ⟨p, _, us, h1, .inr (r.sh.seqT g1), g2, h⟩
  · exact h.elim
theorem sim_lenV {i : Nat} (hK : C.R.K = K) : SimE C (tCB (fun xs H Q => ∃ p ys, xs = [.ref p] ∧ (SqL K H p ys ∨ SqT K H p ys) ∧ Q (.int ys.length) H) (tCons (tVar i) tNil)) (dLenV i) := by
  subst hK
  intro x lx e hd ts vs σ H Q k rp h q
  obtain ⟨S, r⟩ := id rp
  obtain ⟨p, xs, us, h1, h2, h3, h4⟩ := slotSeq_at r h
  exact ⟨_, h1, p, us, rfl, h2, by rw [← h3.length]; exact q _ _ _ _ h4 ⟨S, r.push (.int _)⟩⟩
theorem sim_ixV {i : Nat} (hK : C.R.K = K) (h1 : SimE C tb b) : SimE C (tOp (rIxL K) (tVar i) tb) (dIxV i b) := by
  subst hK
  intro x lx e hd ts vs σ H Q k rp h q
  obtain ⟨S, r⟩ := id rp
  obtain ⟨p, xs, us, e0, _, _, h⟩ := slotLst_at r h
  refine ⟨_, e0, h1 x lx e hd _ _ σ H _ _ rp h fun z e2 w H2 h2' r2 => ?_⟩
  obtain ⟨S2, r2⟩ := r2
  obtain ⟨p', xs', us', e0', g1, g2, h2'⟩ := slotLst_at r2 h2'
  rw [e0] at e0'
  cases e0'
  cases r2.tmp with
  | cons c2 r'' =>
    obtain ⟨j, rfl, rfl, h2'⟩ := c2.isInt h2'
    have h2' : onS (fun z => k z e2) (atI xs' j) := h2'
    cases e1 : atI xs' j with
    | none => rw [e1] at h2'; exact h2'.elim
    | some z =>
      rw [e1] at h2'
      obtain ⟨u, h4, h5⟩ := atI_get g2 e1
      exact ⟨p, us', j, u, rfl, rfl, sqL g1, h4, q _ _ _ _ h2' ⟨S2, r2.temps (.cons h5 r'')⟩⟩
theorem sim_inV {neg : Bool} {i : Nat} (hK : C.R.K = K) (h1 : SimE C ta a) : SimE C (tOp (rIn K neg) ta (tVar i)) (dInV neg a i) := by
  subst hK
  intro x lx e hd ts vs σ H Q k rp h q
  refine h1 x lx e hd _ _ σ H _ _ rp h fun z e2 w H2 h2' r2 => ?_
  obtain ⟨S2, r2⟩ := r2
  obtain ⟨p, xs, us, e0, g1, g2, h2'⟩ := slotSeq_at r2 h2'
  cases r2.tmp with
  | cons c2 r'' =>
    refine ⟨_, e0, p, us, rfl, g1, flat_of c2 h2'.1, flats_of g2 h2'.2.1, ?_⟩
    rw [in_of c2 h2'.1 g2 h2'.2.1]
    exact q _ _ _ _ h2'.2.2 ⟨S2, r2.temps (.cons (.bl _) r'')⟩
theorem sim_revT (hK : C.R.K = K) (h1 : SimE C ta a) : SimE C (tRevT K ta) (dUn oRevT a) := by
  subst hK
  intro x lx e hd ts vs σ H Q k rp h q
  refine h1 x lx e hd ts vs σ H _ _ rp h fun y e1 v H1 h1' r1 => ?_
  unfold oRevT at h1'
  obtain ⟨S, r2⟩ := r1
  split at h1'
  · cases r2.tmp with
    | cons c1 r'' =>
      obtain ⟨p, us, rfl, g1, g2, g3⟩ := c1.tup_inv
      refine ⟨p, us, rfl, r2.sh.seqT g1, fun r hr => ?_⟩
      have n := New.one r2.sh hr (.tup us.reverse)
      exact q _ e1 _ _ h1' ⟨_, (r2.grow n).temps (.cons (.tup (sqT upd_same) (g2.rev.mono n.ss) (by rw [List.length_reverse]; exact g3)) (r''.mono n.ss))⟩
  · exact h1'.elim
theorem sim_extU {i : Nat} (hK : C.R.K = K) (h1 : SimE C ta a) : SimE C (tBM K "list" (rExtU K) (tVar i) (tCons ta tNil)) (dExt i a) := by
  subst hK
  intro x lx e hd ts vs σ H Q k rp h q
  unfold dExt at h
  split at h
  · rename_i ys0 hw
    obtain ⟨S, r⟩ := id rp
    obtain ⟨p, us, e1, e2, e3, e4⟩ := r.slots i _ hw
    refine ⟨_, e1, .inl ⟨rfl, _, sqL e2⟩, ?_⟩
    refine h1 x lx e hd ts vs σ H _ _ rp h fun y e1' v H1 h1' r1 => ?_
    split at h1'
    · rename_i ys zs hw1
      obtain ⟨S1, r1⟩ := r1
      obtain ⟨p1, us1, f1, f2, f3, f4⟩ := r1.slots i _ hw1
      rw [e1] at f1
      cases f1
      cases r1.tmp with
      | cons dv t =>
        obtain ⟨p2, us2, rfl, g1, g2, g3⟩ := dv.tup_inv
        have hz := h1'.1
        refine ⟨p, p2, us1, us2, rfl, rfl, f2, r1.sh.seqT g1, ?_, q _ _ _ _ h1'.2 ⟨S1, ((r1.temps t).own_put (w' := .l (ys ++ zs)) hw1 rfl e1 rfl fun H' h' => ⟨p, _, rfl, h', f3.append g2, ?_⟩).push .non⟩⟩
        · rw [← f3.length, ← g2.length]; exact line_of hz
        · rw [List.length_append]; exact line_of hz
    · exact h1'.elim
  · exact h.elim
theorem DsAt.erase {mo : Option Addr} {xs : List D} {us : List V} (h : DsAt K mo S xs us) (j : Nat) : DsAt K mo S (xs.eraseIdx j) (us.eraseIdx j) := by
  induction xs generalizing us j with
  | nil => cases h; exact .nil
  | cons x r ih =>
    cases h with
    | cons a b =>
      cases j with
      | zero => exact b
      | succ j => exact .cons a (ih b j)
theorem sim_popAt {i : Nat} (hK : C.R.K = K) (h1 : SimE C ta a) : SimE C (tBM K "list" rPopAt (tVar i) (tCons ta tNil)) (dPopAt i a) := by
  subst hK
  intro x lx e hd ts vs σ H Q k rp h q
  unfold dPopAt at h
  split at h
  · rename_i ys0 hw
    obtain ⟨S, r⟩ := id rp
    obtain ⟨p, us, e1, e2, e3, e4⟩ := r.slots i _ hw
    refine ⟨_, e1, .inl ⟨rfl, _, sqL e2⟩, ?_⟩
    refine h1 x lx e hd ts vs σ H _ _ rp h fun y e1' v H1 h1' r1 => ?_
    split at h1'
    · rename_i ys j hw1
      obtain ⟨S1, r1⟩ := r1
      obtain ⟨p1, us1, f1, f2, f3, f4⟩ := r1.slots i _ hw1
      rw [e1] at f1
      cases f1
      cases r1.tmp with
      | cons dv t =>
        obtain rfl := dv.int_inv
        obtain ⟨b1, b2, h1'⟩ := h1'
        cases ez : ys[j.toNat]? with
        | none => rw [ez] at h1'; exact h1'.elim
        | some z =>
          rw [ez] at h1'
          obtain ⟨u, g1, g2⟩ := f3.get ez
          have hlt : j.toNat < us1.length := (List.getElem?_eq_some_iff.mp g1).1
          refine ⟨p, us1, j, j.toNat, u, rfl, rfl, f2, by omega, by omega, ?_, g1, q _ _ _ _ h1' ⟨S1, ((r1.temps t).own_put (w' := .l (ys.eraseIdx j.toNat)) hw1 rfl e1 rfl fun H' h' => ⟨p, _, rfl, h', f3.erase _, ?_⟩).push g2⟩⟩
          · have e5 : ixN us1.length j = some j.toNat := by
              unfold ixN
              rw [if_pos b1, if_pos (by omega)]
            exact (ixN_seq e5).1
          · exact Nat.le_trans (List.length_eraseIdx_le ..) f4
    · exact h1'.elim
  · exact h.elim
theorem sim_cbk {sp : List V → List V → Hp → VK → Prop} {r : List D → List D → (D → Prop) → Prop} {t : TE} (ht : t = fun σ H Q => A σ H fun vs H1 => B σ H1 fun zs H2 => sp vs zs H2 Q)
    (hr : ∀ (xs zs : List D) (us ws : List V) (S H : Hp) (Q : VK) (k : D → Prop), Same S H → DsAt C.R.K C.R.mo S xs us → DsAt C.R.K C.R.mo S zs ws → r xs zs k → (∀ z u S' H', k z → New S H S' H' → DAt C.R.K C.R.mo S' z u → Q u H') → sp us ws H Q)
    (h1 : SimA C A dA) (h2 : SimA C B dB) : SimE C t (dCBK r dA dB) := by
  subst ht
  intro x lx e hd ts vs σ H Q k rp h q
  refine h1 x lx e hd ts vs σ H _ _ rp h fun ys e1 ws H1 h1' hl r1 => h2 x lx e1 hd _ _ σ H1 _ _ r1 h1' fun zs e2 ws2 H2 h2' hl2 r2 => ?_
  obtain ⟨S, r2⟩ := r2
  obtain ⟨t1, t2⟩ := DsAt.split hl2 r2.tmp
  obtain ⟨t3, t4⟩ := DsAt.split hl t2
  exact hr ys zs ws ws2 S H2 Q _ r2.sh t3 t1 h2' fun u uv S' H' ku n du => q u e2 uv H' ku ⟨S', ((r2.grow n).temps (.cons du (t4.mono n.ss)))⟩
theorem kw_max {xs zs : List D} {us ws : List V} {Q : VK} {k : D → Prop} {mo : Option Addr} (sh : Same S H) (d1 : DsAt K mo S xs us) (d2 : DsAt K mo S zs ws) (h : oMaxD xs zs k) (q : ∀ z u S' H', k z → New S H S' H' → DAt K mo S' z u → Q u H') : rMaxD K us ws H Q := by
  unfold oMaxD at h
  split at h
  · obtain ⟨v, rfl, c⟩ := DsAt.one (v := .non) d1
    obtain ⟨w, rfl, c'⟩ := DsAt.one (v := .non) d2
    obtain ⟨p, us, rfl, g1, g2, g3⟩ := c.lst_inv
    obtain ⟨ns, e, k1, k2⟩ := h
    exact ⟨p, ns, w, rfl, rfl, by rw [← ints_at e g2]; exact sqL (sh _ _ g1), fun z => q _ _ S H (k1 z) (New.refl sh) c', fun m hm hy => q _ _ S H (k2 m hm hy) (New.refl sh) (.int _)⟩
  · exact h.elim
theorem kw_min {xs zs : List D} {us ws : List V} {Q : VK} {k : D → Prop} {mo : Option Addr} (sh : Same S H) (d1 : DsAt K mo S xs us) (d2 : DsAt K mo S zs ws) (h : oMinD xs zs k) (q : ∀ z u S' H', k z → New S H S' H' → DAt K mo S' z u → Q u H') : rMinD K us ws H Q := by
  unfold oMinD at h
  split at h
  · obtain ⟨v, rfl, c⟩ := DsAt.one (v := .non) d1
    obtain ⟨w, rfl, c'⟩ := DsAt.one (v := .non) d2
    obtain ⟨p, us, rfl, g1, g2, g3⟩ := c.lst_inv
    obtain ⟨ns, e, k1, k2⟩ := h
    exact ⟨p, ns, w, rfl, rfl, by rw [← ints_at e g2]; exact sqL (sh _ _ g1), fun z => q _ _ S H (k1 z) (New.refl sh) c', fun m hm hy => q _ _ S H (k2 m hm hy) (New.refl sh) (.int _)⟩
  · exact h.elim
theorem simb_max (hK : C.R.K = K) : SimB C (rMax K) oMax := by
  subst hK
  intro xs us S H Q k sh ds h q
  unfold oMax at h
  split at h
  · obtain ⟨v, rfl, c⟩ := DsAt.one (v := .non) ds
    obtain ⟨p, us, rfl, g1, g2, g3⟩ := c.lst_inv
    obtain ⟨ns, e, k1, k2⟩ := h
    exact ⟨p, ns, rfl, by rw [← ints_at e g2]; exact sqL (sh _ _ g1), k1, fun m hm hy => q _ _ S H (k2 m hm hy) (New.refl sh) (.int _)⟩
  · exact h.elim
theorem simb_min (hK : C.R.K = K) : SimB C (rMin K) oMin := by
  subst hK
  intro xs us S H Q k sh ds h q
  unfold oMin at h
  split at h
  · obtain ⟨v, rfl, c⟩ := DsAt.one (v := .non) ds
    obtain ⟨p, us, rfl, g1, g2, g3⟩ := c.lst_inv
    obtain ⟨ns, e, k1, k2⟩ := h
    exact ⟨p, ns, rfl, by rw [← ints_at e g2]; exact sqL (sh _ _ g1), k1, fun m hm hy => q _ _ S H (k2 m hm hy) (New.refl sh) (.int _)⟩
  · exact h.elim
theorem sim_lenSet (hK : C.R.K = K) (h1 : SimE C ta a) : SimE C (tLenSetA K ta) (dLenSet a) := by
  subst hK
  intro x lx e hd ts vs σ H Q k rp h q
  refine h1 x lx e hd ts vs σ H _ _ rp h fun y e1 v H1 h1' r1 => ?_
  obtain ⟨S, r2⟩ := r1
  split at h1'
  · cases r2.tmp with
    | cons c1 r'' =>
      obtain ⟨p, us, rfl, g1, g2, g3⟩ := c1.lst_inv
      obtain ⟨ns, e, k1, k2⟩ := h1'
      exact ⟨p, ns, rfl, by rw [← ints_at e g2]; exact sqL (r2.sh _ _ g1), k1, q _ e1 _ _ k2 ⟨S, r2.temps (.cons (.int _) r'')⟩⟩
  · exact h1'.elim
theorem ty_at {mo : Option Addr} {x : D} {v : V} {t : String} (sh : Same S H) (d : DAt K mo S x v) (e : tyD x = some t) : TyX K H v (.type t) := by
  cases d with
  | non => cases e; exact .base .non
  | bl b => cases e; exact .base (.bl b)
  | int i => cases e; exact .base (.int i)
  | str z => cases e; exact .base (.str z)
  | tup a b c =>
    cases e
    rcases sh.seqT a with (h | ⟨o, h⟩) | ⟨o, its, n, h, hc, _⟩
    · exact .base (.tup h)
    · exact .fTuple h
    · exact .kTuple h hc
  | lst a b c => cases e; exact .base (.lst (sh _ _ a))
  | dic a b c => cases e; exact .base (.dK (sh _ _ a))
  | st h => cases e
  | raw v => cases e
theorem simb_isi (hK : C.R.K = K) : SimB C (rIsi K) oIsi := by
  subst hK
  intro xs us S H Q k sh ds h q
  unfold oIsi at h
  split at h
  · obtain ⟨v, w, rfl, c, c'⟩ := ds.two
    obtain ⟨t, b, h1, h2, h3⟩ := h
    cases c'
    exact rd_isi (ty_at sh c h1) h2 (q _ _ S H h3 (New.refl sh) (.bl _))
  · exact h.elim
/-- raise X(v): the exception is made, its field stored -/
theorem sim_raise {c : Addr} {f : Str} (h1 : SimE C ta a) : SimS C (fun _ σ H => tMkO c (spInitX c f) [] (tCons ta tNil) σ H fun cls d H' => C.E cls d H') (dRaise c f a) := by
  intro x lx e hd ts vs σ H D' k rp L h
  refine rd_mko ?_
  refine h1 x lx e hd ts vs σ H _ _ rp h fun y e1 v H1 h1' r1 => ?_
  refine rd_raise fun d H2 s2 nd hd2 => ?_
  obtain ⟨S, r1⟩ := r1
  have sh2 : Same S H2 := r1.sh.trans s2
  have n : New S H1 S H2 := ⟨s2, Same.refl _, sh2, fun _ _ q => q, fun h => h⟩
  exact lx c f y e1 hd ts vs σ H2 d v ⟨S, r1.grow n⟩ hd2 h1'
end
end Pu

namespace Pu
open PySem PySem.Spec PyProof.Rows L2 Gd RZ
/-- marks: a slot that holds a list (a dict) of its own; a constant of the module's -/
structure OwnMark (i : Nat) : Prop where
  mk ::
structure DicMark (i : Nat) : Prop where
  mk ::
structure KConst (K : PySem.W.Frag) (v : V) (y : D) : Prop where
  at_ : ∀ mo S, DAt K mo S y v
def lc2L (x : DX) (g : DG) (t : DT) (i1 : DI) (g1 : DG) (t1 : DT) (a : DE) (ws ws1 : List Nat) : List D → Nat → Fr → (List D → Fr → Prop) → Prop
  | [], _, e, k => k [] e
  | y :: r, c, e, k => g y e fun e1 => t x e1 fun b e2 => if b = true then i1 x e2 fun items1 e3 => c + items1.length ≤ 1000000 ∧ lcL x g1 t1 a ws1 items1 (wipeF e3 ws1) fun zs e4 =>
      lc2L x g t i1 g1 t1 a ws ws1 r (c + zs.length) (wipeF e4 ws) fun zs' e5 => k (zs ++ zs') e5
    else lc2L x g t i1 g1 t1 a ws ws1 r c (wipeF e2 ws) k
def fLc2 (i : DI) (g : DG) (t : DT) (i1 : DI) (g1 : DG) (t1 : DT) (a : DE) (ws ws1 : List Nat) : DF := fun x e k => i x e fun items e1 => lc2L x g t i1 g1 t1 a ws ws1 items 0 (wipeF e1 ws) fun zs e2 => k zs (wipeF e2 ws)
def dcL (x : DX) (g : DG) (t : DT) (a v : DE) (ws : List Nat) : List D → List (Key × D) → Fr → (List (Key × D) → Fr → Prop) → Prop
  | [], acc, e, k => k acc e
  | y :: r, acc, e, k => g y e fun e1 => t x e1 fun b e2 => if b = true then a x e2 fun z e3 => v x e3 fun u e4 => onK (fun key => dcL x g t a v ws r (putD acc key u) (wipeF e4 ws) k) (keyD z)
    else dcL x g t a v ws r acc (wipeF e2 ws) k
def kDc (i : DI) (g : DG) (t : DT) (a v : DE) (ws : List Nat) : DKF := fun x e k => i x e fun items e1 => dcL x g t a v ws items [] (wipeF e1 ws) fun zs e2 => k zs (wipeF e2 ws)
section
variable {C : Ct} {R : Root} {hd : List (Addr × HO)} {e : Fr} {ts : List D} {vs : List V} {σ : L2.St} {H S : Hp} {te ta tb tc tv : TE} {a b c v : DE} {A B : TA} {dA dB : DA} {K : PySem.W.Frag} {tt tt1 : TT} {dt dt1 : DT} {f : DF} {fk : DKF}
theorem sim_asgO' {i : Nat} (m : OwnMark i) (h1 : SimF C ta f) : SimS C (tAsg ta (gName i)) (dAsgO i f) := sim_asgO h1
theorem sim_asgK' {i : Nat} (m : DicMark i) (h1 : SimKF C ta fk) : SimS C (tAsg ta (gName i)) (dAsgK i fk) := sim_asgK h1
theorem sim_kc {v : V} {y : D} (h : KConst K v y) (hK : C.R.K = K) : SimE C (tC v) (dC y) := by
  subst hK
  exact sim_k fun S => h.at_ _ S
theorem simr_ip {f : Int → Int → Int} : SimR C (ipI f) (oI fun i j => .int (f i j)) := by
  intro x y v w S H Q k sh dx dy h q
  unfold oI at h
  split at h
  · obtain rfl := dx.int_inv
    obtain rfl := dy.int_inv
    exact ⟨_, _, rfl, rfl, q _ _ S H h (New.refl sh) (.int _)⟩
  · exact h.elim
theorem sim_maxD (hK : C.R.K = K) (h1 : SimA C A dA) (h2 : SimA C B dB) : SimE C (tCKw (rMaxD K) A B) (dCBK oMaxD dA dB) := by
  subst hK
  exact sim_cbk rfl (fun xs zs us ws S H Q k sh d1 d2 h q => kw_max sh d1 d2 h q) h1 h2
theorem sim_minD (hK : C.R.K = K) (h1 : SimA C A dA) (h2 : SimA C B dB) : SimE C (tCKw (rMinD K) A B) (dCBK oMinD dA dB) := by
  subst hK
  exact sim_cbk rfl (fun xs zs us ws S H Q k sh d1 d2 h q => kw_min sh d1 d2 h q) h1 h2
theorem wipe_wipe {σ : L2.St} : ∀ (as bs : List Nat), (∀ i ∈ as, i ∈ bs) → wipe (wipe σ as) bs = wipe σ bs := by
  intro as
  induction as with
  | nil => intro bs _; rfl
  | cons i r ih =>
    intro bs hb
    show wipe ((wipe σ r).set i none) bs = _
    rw [wipe_set (hb i List.mem_cons_self)]
    exact ih bs fun z hz => hb z (List.mem_cons_of_mem _ hz)
/-- a comprehension's turns, from a list that is begun; τ: the slots as they stand at each turn's begin -/
theorem lc_gen {J : It} {items hs ys0 : List D} {us acc0 : List V} {x : DX} (lx : LinkX C x) {ws : List Nat} {zs : List Nat} {g : TG} {dg : DG} (wk : WalkD C hs us J items) (hl : hs.length = us.length)
    (hz : ∀ i ∈ zs, i ∈ ws) (hg : SimG C zs g dg) (ht : SimT C tt dt) (ha : SimE C ta a) {Fin : Hp → Prop} {k : List D → Fr → Prop} {p : Addr} {H1 S0 : Hp} (np : ∀ q u, (q, u) ∈ hd → q ≠ p)
    (hl0 : ys0.length = acc0.length) (bd : ys0.length + items.length ≤ sizeLine)
    (rp : RepS C.R ((p, .lst acc0) :: hd) e (ys0 ++ (hs ++ ts)) (acc0 ++ (us ++ vs)) (wipe σ ws) H1 S0) (h : lcL x dg dt a ws items e k)
    (q : ∀ ys e' H' S acc, k ys e' → ys.length = acc.length → ys.length ≤ items.length → RepS C.R ((p, .lst (acc0 ++ acc)) :: hd) e' ((ys0 ++ ys) ++ (hs ++ ts)) ((acc0 ++ acc) ++ (us ++ vs)) (wipe σ ws) H' S → Fin H') :
    ∃ W : Nat → Nat → Hp → Prop, (∃ m, W 0 m H1) ∧ ∀ i m H, W i m H →
      (J.stop i H ∧ Fin H) ∨ (J.go i H ∧ ∃ Nx : Hp → Prop, (∀ H', Nx H' → ∃ m', m' < m ∧ W (i + 1) m' H') ∧ ∀ y H', J.yld i H y H' → g y (wipe σ ws) H' fun σ2 H2 => wipe σ2 ws = wipe σ ws ∧ tt σ2 H2 fun b H3 =>
        if b = true then ta σ2 H3 fun y H4 => ∃ acc, H4 p = some (.lst acc) ∧ acc.length < sizeLine ∧ Nx (upd H4 p (.lst (acc ++ [y]))) else Nx H3) := by
  let Wt : Nat → Hp → Prop := fun j H' => ∃ (e' : Fr) (S : Hp) (ys : List D) (acc : List V), lcL x dg dt a ws (items.drop j) e' (fun zs e2 => k (ys ++ zs) e2) ∧ ys.length ≤ j ∧ ys.length = acc.length ∧
    RepS C.R ((p, .lst (acc0 ++ acc)) :: hd) e' ((ys0 ++ ys) ++ (hs ++ ts)) ((acc0 ++ acc) ++ (us ++ vs)) (wipe σ ws) H' S
  refine ⟨fun j m H' => j ≤ items.length ∧ m = items.length - j ∧ Wt j H', ⟨_, Nat.zero_le _, rfl, ?_⟩, ?_⟩
  · refine ⟨e, S0, [], [], h, Nat.zero_le _, rfl, ?_⟩
    rw [List.append_nil, List.append_nil]
    exact rp
  rintro j m H' ⟨hj, rfl, e', S, ys, acc, f', hy, hyl, rs⟩
  have hyl' : (ys0 ++ ys).length = (acc0 ++ acc).length := by rw [List.length_append, List.length_append, hl0, hyl]
  obtain ⟨t1, t2⟩ := DsAt.split hyl' rs.tmp
  obtain ⟨t3, t4⟩ := DsAt.split hl t2
  obtain ⟨st, it⟩ := wk.2 S H' rs.sh t3
  by_cases hlt : j < items.length
  · have e2 : items[j]? = some items[j] := List.getElem?_eq_getElem hlt
    obtain ⟨go, yl⟩ := it j _ e2
    refine .inr ⟨go, Wt (j + 1), fun H2 w2 => ⟨_, by omega, hlt, rfl, w2⟩, fun y H2 hy2 => ?_⟩
    obtain ⟨S2, nw, dy⟩ := yl y H2 hy2
    rw [List.drop_eq_getElem_cons hlt] at f'
    refine hg _ y e' _ _ _ _ H2 _ _ ⟨S2, (rs.grow nw).push dy⟩ f' fun e3 σ3 H3 k3 r3 w3 => ?_
    have w3' : wipe σ3 ws = wipe σ ws := (w3 ws hz).trans (wipe_wipe _ _ fun _ z => z)
    refine ⟨w3', ht x lx e3 _ _ _ σ3 H3 _ _ r3 k3 fun c e4 H4 k4 r4 => ?_⟩
    have back : ∀ {e5 : Fr} {ts5 : List D} {vs5 : List V} {H5 : Hp} {hd5 : List (Addr × HO)}, Rep C.R hd5 e5 ts5 vs5 σ3 H5 → Rep C.R hd5 (wipeF e5 ws) ts5 vs5 (wipe σ ws) H5 := fun r5 => by
      have := r5.wiped ws
      rw [w3'] at this
      exact this
    cases c with
    | true =>
      rw [if_pos rfl] at k4
      refine iteT (ha x lx e4 _ _ _ σ3 H4 _ _ r4 k4 fun z e5 v H5 k5 r5 => ?_)
      obtain ⟨S5, r5⟩ := back r5
      obtain ⟨j1, j2, j3, j4⟩ := r5.hid p _ List.mem_cons_self
      refine ⟨acc0 ++ acc, j1, ?_, ?_⟩
      · rw [← hyl', List.length_append]
        omega
      cases r5.tmp with
      | cons dz tz =>
        obtain ⟨t5, t6⟩ := DsAt.split hyl' tz
        have r6 := (r5.temps ((t5.append (.cons dz .nil)).append t6)).turn (p := p) (o := .lst ((acc0 ++ acc) ++ [v])) j2 j3 (by rw [j1]; exact ⟨fun _ z => (nomatch z), fun _ z => (nomatch z)⟩) j4 (hd' := hd) fun q u hq => ⟨List.mem_cons_of_mem _ hq, fun z => np q u hq z⟩
        refine ⟨wipeF e5 ws, S5, ys ++ [z], acc ++ [v], ?_, by simp; omega, by simp [hyl], ?_⟩
        · have := k5
          simp only [List.append_assoc, List.singleton_append] at this ⊢
          exact this
        · rw [← List.append_assoc acc0, ← List.append_assoc ys0]
          exact r6
    | false =>
      rw [if_neg Bool.false_ne_true] at k4
      obtain ⟨S5, r5⟩ := back r4
      exact iteF ⟨_, S5, ys, acc, k4, by omega, hyl, r5⟩
  · obtain rfl : j = items.length := by omega
    rw [List.drop_length] at f'
    refine .inl ⟨st, ?_⟩
    have f' : k (ys ++ []) e' := f'
    rw [List.append_nil] at f'
    exact q ys e' H' S acc f' hyl hy rs
theorem simf_lc2 {w w1 : TI} {i i1 : DI} {zs zs1 ws ws1 : List Nat} {g g1 : TG} {dg dg1 : DG} (hz : ∀ i ∈ zs, i ∈ ws) (hz1 : ∀ i ∈ zs1, i ∈ ws1) (hv : ∀ i ∈ ws1, i ∈ ws) (hi : SimI C w i) (hg : SimG C zs g dg) (ht : SimT C tt dt)
    (hi1 : SimI C w1 i1) (hg1 : SimG C zs1 g1 dg1) (ht1 : SimT C tt1 dt1) (ha : SimE C ta a) : SimF C (tLc2 w g tt w1 g1 tt1 ta ws ws1) (fLc2 i dg dt i1 dg1 dt1 a ws ws1) := by
  intro x lx e hd ts vs σ H Q k rp h q
  refine hi x lx e hd ts vs σ H _ _ rp h fun items e1 J H1 hs us h1' hl r1 wk p hp => ?_
  have np := new_hid (Classical.choose_spec r1) hp
  let Wt : Nat → Hp → Prop := fun j H' => ∃ (e' : Fr) (S : Hp) (ys : List D) (acc : List V), lc2L x dg dt i1 dg1 dt1 a ws ws1 (items.drop j) ys.length e' (fun zs e2 => k (ys ++ zs) (wipeF e2 ws)) ∧ ys.length ≤ 1000000 ∧ ys.length = acc.length ∧
    RepS C.R ((p, .lst acc) :: hd) e' (ys ++ (hs ++ ts)) (acc ++ (us ++ vs)) (wipe σ ws) H' S
  refine ⟨fun j m H' => j ≤ items.length ∧ m = items.length - j ∧ Wt j H', ⟨_, Nat.zero_le _, rfl, ?_⟩, ?_⟩
  · obtain ⟨S, r⟩ := r1.wiped ws
    exact ⟨_, S, [], [], h1', Nat.zero_le _, rfl, r.hide hp _⟩
  rintro j m H' ⟨hj, rfl, e', S, ys, acc, f', hy, hyl, rs⟩
  obtain ⟨t1, t2⟩ := DsAt.split hyl rs.tmp
  obtain ⟨t3, t4⟩ := DsAt.split hl t2
  obtain ⟨st, it⟩ := wk.2 S H' rs.sh t3
  by_cases hlt : j < items.length
  · have e2 : items[j]? = some items[j] := List.getElem?_eq_getElem hlt
    obtain ⟨go, yl⟩ := it j _ e2
    refine .inr ⟨go, Wt (j + 1), fun H2 w2 => ⟨_, by omega, hlt, rfl, w2⟩, fun y H2 hy2 => ?_⟩
    obtain ⟨S2, nw, dy⟩ := yl y H2 hy2
    rw [List.drop_eq_getElem_cons hlt] at f'
    refine hg _ y e' _ _ _ _ H2 _ _ ⟨S2, (rs.grow nw).push dy⟩ f' fun e3 σ3 H3 k3 r3 w3 => ?_
    have w3' : wipe σ3 ws = wipe σ ws := (w3 ws hz).trans (wipe_wipe _ _ fun _ z => z)
    refine ⟨w3', ht x lx e3 _ _ _ σ3 H3 _ _ r3 k3 fun c e4 H4 k4 r4 => ?_⟩
    cases c with
    | true =>
      rw [if_pos rfl] at k4
      refine iteT (hi1 x lx e4 _ _ _ σ3 H4 _ _ r4 k4 fun items1 e5 J1 H5 hs1 us1 k5 hl1 r5 wk1 => ?_)
      obtain ⟨S5, r5⟩ := r5.wiped ws1
      obtain ⟨t5, t6⟩ := DsAt.split hl1 r5.tmp
      obtain ⟨t7, t8⟩ := DsAt.split hyl t6
      have bd := k5.1
      refine lc_gen (ys0 := ys) (acc0 := acc) (ts := hs ++ ts) (vs := us ++ vs) lx wk1 hl1 hz1 hg1 ht1 ha np hyl (line_of bd) (r5.temps (t7.append (t5.append t8))) k5.2 fun ys' e6 H6 S6 acc' k6 hl6 hb6 r6 => ?_
      have hyl6 : (ys ++ ys').length = (acc ++ acc').length := by rw [List.length_append, List.length_append, hyl, hl6]
      obtain ⟨t9, t10⟩ := DsAt.split hyl6 r6.tmp
      obtain ⟨_, t12⟩ := DsAt.split hl1 t10
      have r7 := (r6.temps (t9.append t12)).forget (ws := ws) (τ := wipe σ ws) (by rw [← w3', wipe_length, wipe_length]) fun j hj => by
        rw [← w3', wipe_get hj, wipe_get fun z => hj (hv j z)]
      refine ⟨_, S6, ys ++ ys', acc ++ acc', ?_, by rw [List.length_append]; omega, hyl6, r7⟩
      rw [List.length_append]
      simp only [List.append_assoc] at k6 ⊢
      exact k6
    | false =>
      rw [if_neg Bool.false_ne_true] at k4
      have r5 := r4.wiped ws
      rw [w3'] at r5
      obtain ⟨S5, r5⟩ := r5
      exact iteF ⟨_, S5, ys, acc, k4, hy, hyl, r5⟩
  · obtain rfl : j = items.length := by omega
    rw [List.drop_length] at f'
    refine .inl ⟨st, ?_⟩
    have f' : k (ys ++ []) (wipeF e' ws) := f'
    rw [List.append_nil] at f'
    exact q ys (wipeF e' ws) p acc H' S f' (line_of hy) t1 np ((rs.temps t4).forget (by rw [wipe_length]) fun j hj => (wipe_get hj).symm)
/-- values of a dict as things on the stack -/
theorem kv_split {mo : Option Addr} : ∀ {acc : List (Key × D)} {acc' : List (Key × V)}, KvAt K mo S acc acc' → acc.map Prod.fst = acc'.map Prod.fst ∧ DsAt K mo S (acc.map Prod.snd) (acc'.map Prod.snd)
  | _, _, .nil => ⟨rfl, .nil⟩
  | _, _, .cons a b => by
    obtain ⟨h1, h2⟩ := kv_split b
    exact ⟨by rw [List.map_cons, List.map_cons, h1], .cons a h2⟩
theorem kv_join {mo : Option Addr} : ∀ {acc : List (Key × D)} {acc' : List (Key × V)}, acc.map Prod.fst = acc'.map Prod.fst → DsAt K mo S (acc.map Prod.snd) (acc'.map Prod.snd) → KvAt K mo S acc acc'
  | [], [], _, _ => .nil
  | [], _ :: _, e, _ => by simp at e
  | _ :: _, [], e, _ => by simp at e
  | (k, x) :: r, (k', v) :: r', e, h => by
    rw [List.map_cons, List.map_cons] at e
    injection e with e1 e2
    have e1 : k = k' := e1
    subst e1
    cases h with
    | cons a b => exact .cons a (kv_join e2 b)
theorem simk_dc {w : TI} {i : DI} {zs ws : List Nat} {g : TG} {dg : DG} (hz : ∀ i ∈ zs, i ∈ ws) (hi : SimI C w i) (hg : SimG C zs g dg) (ht : SimT C tt dt) (ha : SimE C ta a) (hv : SimE C tv v) :
    SimKF C (tDc w g tt ta tv ws) (kDc i dg dt a v ws) := by
  intro x lx e hd ts vs σ H Q k rp h q
  refine hi x lx e hd ts vs σ H _ _ rp h fun items e1 J H1 hs us h1' hl r1 wk p hp => ?_
  have np := new_hid (Classical.choose_spec r1) hp
  let Wt : Nat → Hp → Prop := fun j H' => ∃ (e' : Fr) (S : Hp) (acc : List (Key × D)) (acc' : List (Key × V)), dcL x dg dt a v ws (items.drop j) acc e' (fun zs e2 => k zs (wipeF e2 ws)) ∧ acc.length ≤ j ∧ acc.map Prod.fst = acc'.map Prod.fst ∧
    RepS C.R ((p, .dK acc') :: hd) e' (acc.map Prod.snd ++ (hs ++ ts)) (acc'.map Prod.snd ++ (us ++ vs)) (wipe σ ws) H' S
  refine ⟨fun j m H' => j ≤ items.length ∧ m = items.length - j ∧ Wt j H', ⟨_, Nat.zero_le _, rfl, ?_⟩, ?_⟩
  · obtain ⟨S, r⟩ := r1.wiped ws
    exact ⟨_, S, [], [], h1', Nat.zero_le _, rfl, r.hide hp _⟩
  rintro j m H' ⟨hj, rfl, e', S, acc, acc', f', hy, hkk, rs⟩
  have hyl : (acc.map Prod.snd).length = (acc'.map Prod.snd).length := by
    have := congrArg List.length hkk
    simpa using this
  obtain ⟨t1, t2⟩ := DsAt.split hyl rs.tmp
  obtain ⟨t3, t4⟩ := DsAt.split hl t2
  obtain ⟨st, it⟩ := wk.2 S H' rs.sh t3
  by_cases hlt : j < items.length
  · have e2 : items[j]? = some items[j] := List.getElem?_eq_getElem hlt
    obtain ⟨go, yl⟩ := it j _ e2
    refine .inr ⟨go, Wt (j + 1), fun H2 w2 => ⟨_, by omega, hlt, rfl, w2⟩, fun y H2 hy2 => ?_⟩
    obtain ⟨S2, nw, dy⟩ := yl y H2 hy2
    rw [List.drop_eq_getElem_cons hlt] at f'
    refine hg _ y e' _ _ _ _ H2 _ _ ⟨S2, (rs.grow nw).push dy⟩ f' fun e3 σ3 H3 k3 r3 w3 => ?_
    have w3' : wipe σ3 ws = wipe σ ws := (w3 ws hz).trans (wipe_wipe _ _ fun _ z => z)
    refine ⟨w3', ht x lx e3 _ _ _ σ3 H3 _ _ r3 k3 fun c e4 H4 k4 r4 => ?_⟩
    cases c with
    | true =>
      rw [if_pos rfl] at k4
      refine iteT (ha x lx e4 _ _ _ σ3 H4 _ _ r4 k4 fun z e5 u H5 k5 r5 => hv x lx e5 _ _ _ σ3 H5 _ _ r5 k5 fun z' e6 u' H6 k6 r6 => ?_)
      have r6 := r6.wiped ws
      rw [w3'] at r6
      obtain ⟨S6, r6⟩ := r6
      obtain ⟨j1, j2, j3, j4⟩ := r6.hid p _ List.mem_cons_self
      cases r6.tmp with
      | cons dz' t6 =>
        cases t6 with
        | cons dz t6 =>
          cases ek : keyD z with
          | none => rw [ek] at k6; exact k6.elim
          | some key =>
            rw [ek] at k6
            obtain ⟨t7, t8⟩ := DsAt.split hyl t6
            have kv := kv_put (kv_join hkk t7) key dz'
            obtain ⟨hk2, ds2⟩ := kv_split kv
            have hb := wk.1
            have hal : acc.length = acc'.length := by simpa using hyl
            refine ⟨acc', key, keyD_at dz ek, j1, by omega, ?_⟩
            have r7 := (r6.temps (ds2.append t8)).turn (p := p) (o := .dK (putK acc' key u')) j2 j3 (by rw [j1]; exact ⟨fun _ z => (nomatch z), fun _ z => (nomatch z)⟩) j4 (hd' := hd) fun q u hq => ⟨List.mem_cons_of_mem _ hq, fun z => np q u hq z⟩
            exact ⟨_, S6, _, _, k6, by have := putD_len acc key z'; omega, hk2, r7⟩
    | false =>
      rw [if_neg Bool.false_ne_true] at k4
      have r5 := r4.wiped ws
      rw [w3'] at r5
      obtain ⟨S5, r5⟩ := r5
      exact iteF ⟨_, S5, acc, acc', k4, by omega, hkk, r5⟩
  · obtain rfl : j = items.length := by omega
    rw [List.drop_length] at f'
    refine .inl ⟨st, ?_⟩
    have f' : k acc (wipeF e' ws) := f'
    have hb := wk.1
    exact q acc (wipeF e' ws) p acc' H' S f' (by omega) (kv_join hkk t1) np ((rs.temps t4).forget (by rw [wipe_length]) fun j hj => (wipe_get hj).symm)
end
end Pu
namespace Pu
open PySem PySem.Spec PyProof.Rows L2 Gd RZ
theorem ds_c {K : PySem.W.Frag} {mo : Option Addr} {S : Hp} : ∀ vs : List V, DsAt K mo S (vs.map cD) vs
  | [] => .nil
  | v :: r => .cons (.c v) (ds_c r)
theorem kc_tup {K : PySem.W.Frag} {a : Addr} {vs : List V} (h : ∀ H, SqT K H a vs) (hl : (vs.map cD).length ≤ sizeLine := by rw [sizeLine_eq]; decide) : KConst K (V.ref a) (.tup (vs.map cD)) := ⟨fun mo S => .tup (h S) (ds_c vs) hl⟩
end Pu

namespace Pu
open PySem PySem.Spec PyProof.Rows L2 Gd RZ
/-! ### operators on data of a known shape -/
section
variable {k : D → Prop} {kl : List D → Prop} {i j : Int} {s t : Str} {b c : Bool} {xs ys : List D} {x y z u : D} {lo hi : Option Int} {e : Fr} {ke : Fr → Prop} {g : DG} {gs : DGs} {kvs : List (Key × D)} {ky : List (Key × D) → Prop}
theorem oI_r {f : Int → Int → V} : oI f (.int i) (.int j) k = k (cD (f i j)) := rfl
theorem oIC_r {P : Int → Int → Prop} {f : Int → Int → V} : oIC P f (.int i) (.int j) k = (P i j ∧ k (cD (f i j))) := rfl
theorem oU_r {f : Int → V} : oU f (.int i) k = k (cD (f i)) := rfl
theorem oEq_ii : oEq (.int i) (.int j) k = k (.bl (decide (i = j))) := rfl
theorem oEq_ss : oEq (.str s) (.str t) k = k (.bl (decide (s = t))) := rfl
theorem oEq_bb : oEq (.bl b) (.bl c) k = k (.bl (decide (b = c))) := rfl
theorem oEq_nn : oEq .non .non k = k (.bl true) := rfl
theorem oEq_ni : oEq .non (.int i) k = k (.bl false) := rfl
theorem oEq_ns : oEq .non (.str s) k = k (.bl false) := rfl
theorem oEq_nb : oEq .non (.bl b) k = k (.bl false) := rfl
theorem oEq_in : oEq (.int i) .non k = k (.bl false) := rfl
theorem oEq_sn : oEq (.str s) .non k = k (.bl false) := rfl
theorem oEq_bn : oEq (.bl b) .non k = k (.bl false) := rfl
theorem oEq_is : oEq (.int i) (.str s) k = k (.bl false) := rfl
theorem oEq_si : oEq (.str s) (.int i) k = k (.bl false) := rfl
theorem oEq_bs : oEq (.bl b) (.str s) k = k (.bl false) := rfl
theorem oEq_sb : oEq (.str s) (.bl b) k = k (.bl false) := rfl
theorem isBl_r {k : Bool → Prop} : isBl k (.bl b) = k b := rfl
theorem isInt_r {k : Int → Prop} : isInt k (.int i) = k i := rfl
theorem oIxL_r : oIxL (.lst xs) (.int i) k = onS k (atI xs i) := rfl
theorem oIxT_r : oIxT (.tup xs) (.int i) k = onS k (atI xs i) := rfl
theorem oSlT_r : oSlT (.tup xs) lo hi k = k (.tup (cut xs lo hi)) := rfl
theorem oSlL_r : oSlL (.lst xs) lo hi kl = kl (cut xs lo hi) := rfl
theorem oCatT_r : oCatT (.tup xs) (.tup ys) k = (xs.length + ys.length ≤ 1000000 ∧ k (.tup (xs ++ ys))) := rfl
theorem oCatL_r : oCatL (.lst xs) (.lst ys) kl = (xs.length + ys.length ≤ 1000000 ∧ kl (xs ++ ys)) := rfl
theorem oRepL_r : oRepL (.lst xs) (.int i) kl = (i ≤ 1000000 ∧ -1000000 ≤ i ∧ xs.length * i.toNat ≤ 1000000 ∧ kl (List.replicate i.toNat xs).flatten) := rfl
theorem oRepT_r : oRepT (.tup xs) (.int i) k = (xs ≠ [] ∧ 0 ≤ i ∧ i ≤ 1000 ∧ xs.length ≤ 1000 ∧ k (.tup (List.replicate i.toNat xs).flatten)) := rfl
theorem oIn_l {neg : Bool} : oIn neg x (.lst xs) k = (flatD x = true ∧ xs.all flatD = true ∧ k (.bl (if neg then !inD x xs else inD x xs))) := rfl
theorem oIn_t {neg : Bool} : oIn neg x (.tup xs) k = (flatD x = true ∧ xs.all flatD = true ∧ k (.bl (if neg then !inD x xs else inD x xs))) := rfl
theorem oLen_l : oLen [.lst xs] k = k (.int xs.length) := rfl
theorem oLen_t : oLen [.tup xs] k = k (.int xs.length) := rfl
theorem oTupleOf_l : oTupleOf [.lst xs] k = k (.tup xs) := rfl
theorem oTupleOf_t : oTupleOf [.tup xs] k = k (.tup xs) := rfl
theorem oListOf_l : oListOf [.lst xs] kl = kl xs := rfl
theorem oListOf_t : oListOf [.tup xs] kl = kl xs := rfl
theorem oSum_r : oSum [.lst xs] k = ∃ ns, intsD xs = some ns ∧ k (.int ns.sum) := rfl
theorem oAll_r : oAll [.lst xs] k = ∃ ns, blsD xs = some ns ∧ k (.bl (ns.all id)) := rfl
theorem oAny_r : oAny [.lst xs] k = ∃ ns, blsD xs = some ns ∧ k (.bl (ns.any id)) := rfl
theorem o2_r {f : Int → Int → Int} : o2 f [.int i, .int j] k = k (.int (f i j)) := rfl
theorem o1_r {f : Int → Int} : o1 f [.int i] k = k (.int (f i)) := rfl
theorem oIsi_r {n : String} : oIsi [x, .raw (.ty n)] k = ∃ t b, tyD x = some t ∧ kitB t n = some b ∧ k (.bl b) := rfl
theorem oItL_r : oItL [.lst xs] kl = kl xs := rfl
theorem oItT_r : oItT [.tup xs] kl = kl xs := rfl
theorem oRng1_r : oRng1 [.int i] kl = (-1000000 ≤ i ∧ i ≤ 1000000 ∧ kl (rangeD 0 i.toNat)) := rfl
theorem oRng2_r : oRng2 [.int i, .int j] kl = (-1000000000 ≤ i ∧ i ≤ 1000000000 ∧ -1000000000 ≤ j ∧ j ≤ 1000000000 ∧ j - i ≤ 1000000 ∧ kl (rangeD i (j - i).toNat)) := rfl
theorem oZipA_l : oZipA [.lst xs, .lst ys] kl = kl (zipD xs ys) := rfl
theorem oZipA_t : oZipA [.tup xs, .tup ys] kl = kl (zipD xs ys) := rfl
theorem oZipM_r : oZipM [.lst xs, .tup ys] kl = kl (zipD xs ys) := rfl
theorem oZipN_r : oZipN [.tup xs, .lst ys] kl = kl (zipD xs ys) := rfl
theorem oEnL_r : oEnL [.lst xs] kl = kl (enumD xs) := rfl
theorem oEnT_r : oEnT [.tup xs] kl = kl (enumD xs) := rfl
theorem oStr_r : oStr [.str s] kl = (s.length ≤ 1000000 ∧ kl (charsD s)) := rfl
theorem dTupG_r : dTupG gs (.tup ys) e ke = gs ys e ke := rfl
theorem dGNil_r : dGNil [] e ke = ke e := rfl
theorem dGCons_r : dGCons g gs (y :: ys) e ke = g y e fun e1 => gs ys e1 ke := rfl
theorem oRevT_r : oRevT (.tup xs) k = k (.tup xs.reverse) := rfl
theorem oMaxD_r : oMaxD [.lst ys] [u] k = ∃ ns, intsD ys = some ns ∧ (ns = [] → k u) ∧ ∀ m, m ∈ ns → (∀ y, y ∈ ns → y ≤ m) → k (.int m) := rfl
theorem oMinD_r : oMinD [.lst ys] [u] k = ∃ ns, intsD ys = some ns ∧ (ns = [] → k u) ∧ ∀ m, m ∈ ns → (∀ y, y ∈ ns → m ≤ y) → k (.int m) := rfl
theorem oMax_r : oMax [.lst ys] k = ∃ ns, intsD ys = some ns ∧ 0 < ns.length ∧ ∀ m, m ∈ ns → (∀ y, y ∈ ns → y ≤ m) → k (.int m) := rfl
theorem oMin_r : oMin [.lst ys] k = ∃ ns, intsD ys = some ns ∧ 0 < ns.length ∧ ∀ m, m ∈ ns → (∀ y, y ∈ ns → m ≤ y) → k (.int m) := rfl
theorem oListDic_r : oListDic [.dic kvs] kl = kl (kvs.map fun kv => dK kv.1) := rfl
theorem oLenDic_r : oLenDic [.dic kvs] k = k (.int kvs.length) := rfl
theorem oRepr_r : oRepr [x] k = (x.plain = true ∧ x.py.showable = true ∧ x.py.hasDict = false ∧ x.py.depth ≤ 150 ∧ x.py.shown.length ≤ sizeLine ∧ k (.str x.py.shown)) := rfl
end
section
variable {α : Type} {a b c d : α} {r xs : List α}
theorem atI_0 : atI (a :: r) 0 = some a := by
  have : ixN (a :: r).length 0 = some 0 := by
    unfold ixN
    rw [if_pos (by decide), if_pos (by simp only [List.length_cons]; omega)]
    rfl
  unfold atI
  rw [this]
  rfl
theorem atI_1 : atI (a :: b :: r) 1 = some b := by
  have : ixN (a :: b :: r).length 1 = some 1 := by
    unfold ixN
    rw [if_pos (by decide), if_pos (by simp only [List.length_cons]; omega)]
    rfl
  unfold atI
  rw [this]
  rfl
theorem atI_2 : atI (a :: b :: c :: r) 2 = some c := by
  have : ixN (a :: b :: c :: r).length 2 = some 2 := by
    unfold ixN
    rw [if_pos (by decide), if_pos (by simp only [List.length_cons]; omega)]
    rfl
  unfold atI
  rw [this]
  rfl
theorem atI_3 : atI (a :: b :: c :: d :: r) 3 = some d := by
  have : ixN (a :: b :: c :: d :: r).length 3 = some 3 := by
    unfold ixN
    rw [if_pos (by decide), if_pos (by simp only [List.length_cons]; omega)]
    rfl
  unfold atI
  rw [this]
  rfl
theorem atI_m1 : atI (xs ++ [a]) (-1) = some a := by
  have : ixN (xs ++ [a]).length (-1) = some xs.length := by
    unfold ixN
    rw [if_neg (by decide), if_pos (by simp only [List.length_append, List.length_cons, List.length_nil]; omega)]
    congr 1
    simp only [List.length_append, List.length_cons, List.length_nil]
    omega
  unfold atI
  rw [this]
  simp
theorem cut_1 : cut (a :: r) (some 1) none = r := by
  unfold cut
  have e1 : HT.sIx (a :: r).length 0 (some 1) = 1 := by
    rw [show HT.sIx (a :: r).length 0 (some 1) = min 1 (a :: r).length from HT.sIx_nat _ 0 1]
    rw [List.length_cons]
    omega
  rw [e1, HT.sIx_none, List.length_cons, Nat.add_sub_cancel]
  exact List.take_length
theorem cut_from {n : Nat} : cut xs (some (n : Int)) none = xs.drop n := by
  unfold cut
  have e1 : HT.sIx xs.length 0 (some (n : Int)) = min n xs.length := HT.sIx_nat _ 0 n
  rw [e1, HT.sIx_none]
  by_cases h : n ≤ xs.length
  · rw [Nat.min_eq_left h, List.take_of_length_le (by rw [List.length_drop]; exact Nat.le_refl _)]
  · rw [Nat.min_eq_right (by omega), List.drop_length, List.drop_eq_nil_of_le (by omega)]
    simp
theorem cut_to {n : Nat} : cut xs none (some (n : Int)) = xs.take n := by
  unfold cut
  have e1 : HT.sIx xs.length xs.length (some (n : Int)) = min n xs.length := HT.sIx_nat _ _ n
  rw [e1, HT.sIx_none, List.drop_zero, Nat.sub_zero]
  by_cases h : n ≤ xs.length
  · rw [Nat.min_eq_left h]
  · rw [Nat.min_eq_right (by omega), List.take_length, List.take_of_length_le (by omega)]
end
end Pu
namespace Pu
open PySem PySem.Spec PyProof.Rows L2 Gd RZ
theorem ofStr_eq (a b : String) : (Str.ofString a = Str.ofString b) = (a = b) := by
  refine propext ⟨fun h => ?_, fun h => by rw [h]⟩
  have h1 : Str.ofStringByList a = Str.ofStringByList b := by rw [← Str.ofString_eq_byList]; exact h
  have h2 : (a.toList.map Char.toNat).toArray = (b.toList.map Char.toNat).toArray := congrArg Str.cps h1
  have h3 : a.toList.map Char.toNat = b.toList.map Char.toNat := by simpa using h2
  have inj : ∀ {l m : List Char}, l.map Char.toNat = m.map Char.toNat → l = m := by
    intro l
    induction l with
    | nil => intro m e; cases m with
      | nil => rfl
      | cons _ _ => simp at e
    | cons c r ih => intro m e; cases m with
      | nil => simp at e
      | cons d t =>
        rw [List.map_cons, List.map_cons] at e
        injection e with e1 e2
        have hc : c = d := by
          apply Char.ext
          exact UInt32.toNat_inj.mp e1
        rw [hc, ih e2]
  exact String.toList_inj.mp (inj h3)
end Pu
namespace Pu
open PySem PySem.Spec PyProof.Rows L2 Gd RZ
/-- a while by a word and a measure -/
theorem dwhile {t : DT} {b : DS} {x : DX} {k : DEn} {e : Fr} (W : Nat → Fr → Prop) (m0 : Nat) (h0 : W m0 e) (hs : ∀ m e, W m e → t x e fun c e1 => if c = true then
    b x { k with nx := fun e' => ∃ m', m' < m ∧ W m' e', ct := fun e' => ∃ m', m' < m ∧ W m' e', bk := k.nx } e1 else k.nx e1) : dWhile t b x k e := ⟨W, ⟨m0, h0⟩, hs⟩
/-- a for: its word by the items that are left -/
theorem dfor {g : DG} {b : (Fr → Prop) → Fr → Prop} {nx : Fr → Prop} (W : List D → Fr → Prop) (h0 : ∀ e, W [] e → nx e) (hs : ∀ y r e (N : Fr → Prop), W (y :: r) e → (∀ e', W r e' → N e') → g y e fun e1 => b N e1) :
    ∀ {items : List D} {e : Fr}, W items e → forL g b items nx e
  | [], e, w => h0 e w
  | y :: r, e, w => hs y r e _ w fun e' w' => dfor W h0 hs w'
/-- a comprehension: its word by what is left, what is made, the frame -/
theorem dlcW {x : DX} {g : DG} {t : DT} {a : DE} {ws : List Nat} (W : List D → List D → Fr → Prop)
    (hs : ∀ y r acc e, W (y :: r) acc e → ∀ (K : D → Fr → Prop) (K' : Fr → Prop), (∀ z e3, W r (acc ++ [z]) (wipeF e3 ws) → K z e3) → (∀ e2, W r acc (wipeF e2 ws) → K' e2) →
      g y e fun e1 => t x e1 fun b e2 => if b = true then a x e2 K else K' e2) : ∀ {items acc : List D} {e : Fr} {k : List D → Fr → Prop}, W items acc e → (∀ zs e', W [] (acc ++ zs) e' → k zs e') → lcL x g t a ws items e k
  | [], acc, e, k, w, q => q [] e (by rw [List.append_nil]; exact w)
  | y :: r, acc, e, k, w, q => hs y r acc e w _ _ (fun z e3 w3 => dlcW W hs w3 fun zs e' w' => q (z :: zs) e' (by rw [List.append_assoc] at w'; exact w')) fun e2 w2 => dlcW W hs w2 q
/-- a comprehension whose turns leave the frame as it is: f tells what a turn makes, if anything -/
theorem dlc {x : DX} {g : DG} {t : DT} {a : DE} {ws : List Nat} (f : D → Option D) {e : Fr} {items : List D} {k : List D → Fr → Prop}
    (hs : ∀ y ∈ items, ∀ (K : D → Fr → Prop) (K' : Fr → Prop), (∀ e', wipeF e' ws = e → (∀ z, f y = some z → K z e') ∧ (f y = none → K' e')) → g y e fun e1 => t x e1 fun b e2 => if b = true then a x e2 K else K' e2)
    (q : k (items.filterMap f) e) : lcL x g t a ws items e k := by
  refine dlcW (fun r acc e' => e' = e ∧ acc ++ r.filterMap f = items.filterMap f ∧ ∀ y ∈ r, y ∈ items) ?_ (acc := []) ⟨rfl, rfl, fun _ h => h⟩ fun zs e' ⟨h1, h2, _⟩ => ?_
  · rintro y r acc e' ⟨rfl, h2, h3⟩ K K' hK hK'
    refine hs y (h3 y List.mem_cons_self) K K' fun e3 h => ⟨fun z hz => hK z e3 ⟨h, ?_, fun u hu => h3 u (List.mem_cons_of_mem _ hu)⟩, fun hz => hK' e3 ⟨h, ?_, fun u hu => h3 u (List.mem_cons_of_mem _ hu)⟩⟩
    · rw [← h2, List.filterMap_cons, hz]
      simp
    · rw [← h2, List.filterMap_cons, hz]
  · subst h1
    have : zs = items.filterMap f := by simpa using h2
    rw [this]
    exact q
/-- .. without a test: f tells what a turn makes -/
theorem dlcM {x : DX} {g : DG} {a : DE} {ws : List Nat} (f : D → D) {e : Fr} {items : List D} {k : List D → Fr → Prop}
    (hs : ∀ y ∈ items, ∀ (K : D → Fr → Prop), (∀ e', wipeF e' ws = e → K (f y) e') → g y e fun e1 => a x e1 K)
    (q : k (items.map f) e) : lcL x g dYes a ws items e k := by
  refine dlc (fun y => some (f y)) (fun y hy K K' hK => ?_) (by rw [show items.filterMap (fun y => some (f y)) = items.map f from by induction items <;> simp_all]; exact q)
  have := hs y hy K fun e' h => (hK e' h).1 _ rfl
  simp only [dYes, if_true]
  exact this
end Pu
namespace Pu
open PySem PySem.Spec PyProof.Rows L2 Gd RZ
section
variable {α : Type} {x : DX} {g : DG} {t : DT} {a : DE} {ws : List Nat} {e : Fr}
/-- a for over things of a kind: its word by what is done -/
theorem dforM {b : (Fr → Prop) → Fr → Prop} {nx : Fr → Prop} {l0 : List α} (f : α → D) (W : List α → Fr → Prop) (h : W [] e) (h0 : ∀ e, W l0 e → nx e)
    (hs : ∀ l y r e (N : Fr → Prop), l0 = l ++ y :: r → W l e → (∀ e', W (l ++ [y]) e' → N e') → g (f y) e fun e1 => b N e1) : forL g b (l0.map f) nx e := by
  refine dfor (fun r e => ∃ l l', l0 = l ++ l' ∧ r = l'.map f ∧ W l e) ?_ ?_ ⟨[], l0, rfl, rfl, h⟩
  · rintro e ⟨l, l', h1, h2, w⟩
    cases l' with
    | nil =>
      rw [List.append_nil] at h1
      subst h1
      exact h0 e w
    | cons _ _ => cases h2
  · rintro y r e N ⟨l, l', h1, h2, w⟩ hN
    cases l' with
    | nil => cases h2
    | cons z l' =>
      rw [List.map_cons] at h2
      injection h2 with h2 h3
      subst h2
      exact hs l z l' e N h1 w fun e' w' => hN e' ⟨l ++ [z], l', by rw [h1]; simp, h3, w'⟩
/-- a comprehension over things of a kind, each giving h of it -/
theorem dlcMM {l0 : List α} (f h : α → D) {k : List D → Fr → Prop} (hs : ∀ y ∈ l0, ∀ (K : D → Fr → Prop), (∀ e', wipeF e' ws = e → K (h y) e') → g (f y) e fun e1 => a x e1 K) (q : k (l0.map h) e) :
    lcL x g dYes a ws (l0.map f) e k := by
  refine dlcW (fun r acc e' => e' = e ∧ ∃ l l', l0 = l ++ l' ∧ r = l'.map f ∧ acc = l.map h) ?_ (acc := []) ⟨rfl, [], l0, rfl, rfl, rfl⟩ fun zs e' ⟨h1, l, l', h2, h3, h4⟩ => ?_
  · rintro y r acc e' ⟨rfl, l, l', h1, h2, h3⟩ K K' hK _
    cases l' with
    | nil => cases h2
    | cons z l' =>
      rw [List.map_cons] at h2
      injection h2 with h2 h4
      subst h2
      simp only [dYes, if_true]
      refine hs z (by rw [h1]; simp) K fun e3 he => hK _ _ ⟨he, l ++ [z], l', by rw [h1]; simp, h4, by rw [h3]; simp⟩
  · subst h1
    cases l' with
    | cons _ _ => cases h3
    | nil =>
      rw [List.append_nil] at h2
      subst h2
      have : zs = l0.map h := by simpa using h4
      rw [this]
      exact q
/-- .. of those of which p tells -/
theorem dlcFM {l0 : List α} (f h : α → D) (p : α → Bool) {k : List D → Fr → Prop}
    (hs : ∀ y ∈ l0, ∀ (K : D → Fr → Prop) (K' : Fr → Prop), (∀ e', wipeF e' ws = e → (p y = true → K (h y) e') ∧ (p y = false → K' e')) → g (f y) e fun e1 => t x e1 fun b e2 => if b = true then a x e2 K else K' e2)
    (q : k ((l0.filter p).map h) e) : lcL x g t a ws (l0.map f) e k := by
  refine dlcW (fun r acc e' => e' = e ∧ ∃ l l', l0 = l ++ l' ∧ r = l'.map f ∧ acc = (l.filter p).map h) ?_ (acc := []) ⟨rfl, [], l0, rfl, rfl, rfl⟩ fun zs e' ⟨h1, l, l', h2, h3, h4⟩ => ?_
  · rintro y r acc e' ⟨rfl, l, l', h1, h2, h3⟩ K K' hK hK'
    cases l' with
    | nil => cases h2
    | cons z l' =>
      rw [List.map_cons] at h2
      injection h2 with h2 h4
      subst h2
      refine hs z (by rw [h1]; simp) K K' fun e3 he => ⟨fun hp => hK _ _ ⟨he, l ++ [z], l', by rw [h1]; simp, h4, ?_⟩, fun hp => hK' _ ⟨he, l ++ [z], l', by rw [h1]; simp, h4, ?_⟩⟩
      · rw [List.filter_append, List.map_append, h3, List.filter_cons_of_pos hp]; rfl
      · rw [List.filter_append, List.map_append, h3, List.filter_cons_of_neg (by rw [hp]; exact Bool.false_ne_true)]; simp
  · subst h1
    cases l' with
    | cons _ _ => cases h3
    | nil =>
      rw [List.append_nil] at h2
      subst h2
      have : zs = (l0.filter p).map h := by simpa using h4
      rw [this]
      exact q
end
theorem intsD_map (ns : List Int) : intsD (ns.map D.int) = some ns := by
  induction ns with
  | nil => rfl
  | cons i r ih =>
    show (intsD (r.map D.int)).map (i :: ·) = _
    rw [ih]
    rfl
theorem blsD_map {α : Type} (f : α → Bool) (l : List α) : blsD (l.map fun a => D.bl (f a)) = some (l.map f) := by
  induction l with
  | nil => rfl
  | cons i r ih =>
    show (blsD (r.map fun a => D.bl (f a))).map (f i :: ·) = _
    rw [ih]
    rfl
theorem zipD_map {α β : Type} (f : α → D) (g : β → D) (l : List α) (m : List β) : zipD (l.map f) (m.map g) = (l.zip m).map fun p => .tup [f p.1, g p.2] := by
  unfold zipD
  induction l generalizing m with
  | nil => rfl
  | cons x r ih =>
    cases m with
    | nil => rfl
    | cons y t => rw [List.map_cons, List.map_cons, List.zipWith_cons_cons, ih]; rfl
theorem all_flat {α : Type} {f : α → D} (h : ∀ a, flatD (f a) = true) (l : List α) : (l.map f).all flatD = true := by
  rw [List.all_map]
  exact List.all_eq_true.mpr fun x _ => h x
theorem inD_str (x : Str) (fs : List Str) : inD (.str x) (fs.map D.str) = decide (x ∈ fs) := by
  unfold inD
  rw [List.any_map]
  induction fs with
  | nil => rfl
  | cons y r ih =>
    rw [List.any_cons, ih]
    show ((y == x) || decide (x ∈ r)) = decide (x ∈ y :: r)
    by_cases e : x = y
    · subst e
      simp
    · have e' : ¬ y = x := fun z => e z.symm
      simp [e, e']
theorem inD_int (x : Int) (fs : List Int) : inD (.int x) (fs.map D.int) = decide (x ∈ fs) := by
  unfold inD
  rw [List.any_map]
  induction fs with
  | nil => rfl
  | cons y r ih =>
    rw [List.any_cons, ih]
    show ((y == x) || decide (x ∈ r)) = decide (x ∈ y :: r)
    by_cases e : x = y
    · subst e
      simp
    · have e' : ¬ y = x := fun z => e z.symm
      simp [e, e']
end Pu
namespace Pu
open PySem PySem.Spec PyProof.Rows L2 Gd RZ
def dNotT (a : DE) : DE := fun x e k => a x e fun y e1 => tru (fun b => k (.bl (!b)) e1) y
section
variable {C : Ct} {ta : TE} {a : DE} {K : PySem.W.Frag}
theorem sim_notT (hK : C.R.K = K) (h1 : SimE C ta a) : SimE C (tNotT K ta) (dNotT a) := by
  subst hK
  intro x lx e hd ts vs σ H Q k rp h q
  refine h1 x lx e hd ts vs σ H _ _ rp h fun y e1 v H1 h1' r1 => ?_
  obtain ⟨S, r2⟩ := id r1
  cases r2.tmp with
  | cons c1 t =>
    obtain ⟨b, tb, kb⟩ := c1.tru r2.sh h1'
    exact ⟨b, tb, q _ _ _ _ kb ⟨S, r2.temps (.cons (.bl _) t)⟩⟩
end
section
variable {α : Type} {x : DX} {g : DG} {t : DT} {a v : DE} {ws : List Nat} {e : Fr}
theorem keyD_dK (key : Key) : keyD (dK key) = some key := by cases key <;> rfl
/-- a dict comprehension over things of a kind -/
theorem dcMM {l0 : List α} (f : α → D) (kf : α → Key) (vf : α → D) : ∀ {acc : List (Key × D)} {k : List (Key × D) → Fr → Prop}, (∀ y ∈ l0, ∀ (K : D → D → Fr → Prop), (∀ e', wipeF e' ws = e → K (dK (kf y)) (vf y) e') → g (f y) e fun e1 => a x e1 fun z e3 => v x e3 fun u e4 => K z u e4) →
    k (mergeD acc (l0.map fun y => (kf y, vf y))) e → dcL x g dYes a v ws (l0.map f) acc e k := by
  induction l0 with
  | nil => intro acc k _ q; exact q
  | cons y r ih =>
    intro acc k hs q
    have h1 := hs y List.mem_cons_self (fun z u e4 => onK (fun key => dcL x g dYes a v ws (r.map f) (putD acc key u) (wipeF e4 ws) k) (keyD z)) fun e' he => by
      rw [keyD_dK, he]
      exact ih (fun y' hy' => hs y' (List.mem_cons_of_mem _ hy')) q
    rw [List.map_cons]
    simp only [dcL, dYes, if_true]
    exact h1
end
end Pu
namespace Pu
open PySem PySem.Spec PyProof.Rows L2 Gd RZ
/-- a comprehension over two, things of a kind each -/
theorem dlc2MM {α β : Type} {x : DX} {g g1 : DG} {i1 : DI} {a : DE} {ws ws1 : List Nat} {e : Fr} {l0 : List α} {m : α → List β} (f : α → D) (f1 : β → D) (h : α → β → D) (F : α → Fr)
    (hs : ∀ y ∈ l0, ∀ K : List D → Fr → Prop, K ((m y).map f1) (F y) → g (f y) e fun e1 => i1 x e1 K)
    (hi : ∀ y ∈ l0, ∀ z ∈ m y, ∀ K : D → Fr → Prop, (∀ e', wipeF e' ws1 = wipeF (F y) ws1 → K (h y z) e') → g1 (f1 z) (wipeF (F y) ws1) fun e1 => a x e1 K)
    (hw : ∀ y ∈ l0, wipeF (wipeF (F y) ws1) ws = e) : ∀ {c : Nat} {k : List D → Fr → Prop}, c + (l0.flatMap fun y => (m y).map (h y)).length ≤ 1000000 → k (l0.flatMap fun y => (m y).map (h y)) e →
    lc2L x g dYes i1 g1 dYes a ws ws1 (l0.map f) c e k := by
  induction l0 with
  | nil => intro c k _ q; exact q
  | cons y r ih =>
    intro c k hl q
    rw [List.flatMap_cons, List.length_append, List.length_map] at hl
    rw [List.map_cons]
    simp only [lc2L, dYes, if_true]
    refine hs y List.mem_cons_self _ ⟨by rw [List.length_map]; omega, ?_⟩
    refine dlcMM f1 (h y) (fun z hz K hK => hi y List.mem_cons_self z hz K hK) ?_
    rw [hw y List.mem_cons_self]
    refine ih (fun y' hy' => hs y' (List.mem_cons_of_mem _ hy')) (fun y' hy' => hi y' (List.mem_cons_of_mem _ hy')) (fun y' hy' => hw y' (List.mem_cons_of_mem _ hy')) (by rw [List.length_map]; omega) ?_
    rw [List.flatMap_cons] at q
    exact q
end Pu
namespace Pu
theorem range0 (n : Nat) : rangeD 0 n = (List.range n).map fun (i : Nat) => D.int (i : Int) := by
  unfold rangeD
  simp only [Int.zero_add]
theorem enum_map {α : Type} (f : α → D) (l : List α) : enumD (l.map f) = ((List.range l.length).zip l).map fun p => .tup [.int (p.1 : Int), f p.2] := by
  unfold enumD
  rw [range0, zipD_map, List.length_map]
end Pu
namespace Pu
theorem zipD_self {α β : Type} (f : α → D) (g : β → D) (h : α → β) (l : List α) : zipD (l.map f) ((l.map h).map g) = l.map fun a => .tup [f a, g (h a)] := by
  unfold zipD
  induction l with
  | nil => rfl
  | cons x r ih => rw [List.map_cons, List.map_cons, List.map_cons, List.zipWith_cons_cons, ih]; rfl
end Pu
namespace Pu
theorem intsD_mapF {α : Type} (f : α → Int) (l : List α) : intsD (l.map fun a => D.int (f a)) = some (l.map f) := by
  induction l with
  | nil => rfl
  | cons i r ih =>
    show (intsD (r.map fun a => D.int (f a))).map (f i :: ·) = _
    rw [ih]
    rfl
end Pu

namespace Pu
open PySem PySem.Spec PyProof.Rows L2 Gd RZ
/-! ### calls of what was handed over: told, or what was raised -/
def wOutD (K : PySem.W.Frag) (k : D → Fr → Prop) (e : Fr) : List (Addr × Str × Str) → Addr → Str → D → Prop
  | [], _, _, _ => False
  | (C, tag, f) :: r, c, g, y => ∃ b, PySem.W.exmOne K (.ref c) (.ref C) = some b ∧ (b = true → c = C ∧ g = f ∧ k (.tup [.str tag, y]) e) ∧ (b = false → wOutD K k e r c g y)
theorem wOutD_yes {K : PySem.W.Frag} {k : D → Fr → Prop} {e : Fr} {C : Addr} {tag f : Str} {r : List (Addr × Str × Str)} {y : D} (h : PySem.W.exmOne K (.ref C) (.ref C) = some true) (q : k (.tup [.str tag, y]) e) : wOutD K k e ((C, tag, f) :: r) C f y :=
  ⟨_, h, fun _ => ⟨rfl, rfl, q⟩, fun z => nomatch z⟩
theorem wOutD_no {K : PySem.W.Frag} {k : D → Fr → Prop} {e : Fr} {C c : Addr} {tag f g : Str} {r : List (Addr × Str × Str)} {y : D} (h : PySem.W.exmOne K (.ref c) (.ref C) = some false) (q : wOutD K k e r c g y) : wOutD K k e ((C, tag, f) :: r) c g y :=
  ⟨_, h, fun z => (nomatch z), fun _ => q⟩
def dLam (K : PySem.W.Frag) (outs : List (Addr × Str × Str)) (d : SpP) (a : DA) : DE := fun x e k => a (fun _ _ _ _ => False) e fun ys e1 => d ys (fun y => k (.tup [.str "told", y]) e1) fun c f y => wOutD K k e1 outs c f y
section
variable {R : Root} {hd : List (Addr × HO)} {e : Fr} {ts : List D} {vs : List V} {σ : L2.St} {H S H' : Hp}
/-- the tables move -/
theorem RepS.extN (r : RepS R hd e ts vs σ H S) (hS : ∀ a ps, R.S0 a ≠ some (.tbl ps)) (ht : R.tabs = true) (x : LamX.ExtN H H') (tb : LamX.Tabs R.T H') : RepS R hd e ts vs σ H' S where
  keep := fun a o h hn q => x _ _ (r.keep a o h hn q) (hn ht)
  s0 := r.s0
  old := r.old
  sh := fun a o q => x _ _ (r.sh a o q) fun ps z => r.tb hS a ps (by rw [q, z])
  len := r.len
  slots := fun i w h => by
    have g := r.slots i w h
    cases w with
    | u => exact trivial
    | d y => exact g
    | l ys => obtain ⟨p, us, h1, h2, h3⟩ := g; exact ⟨p, us, h1, x _ _ h2 fun _ z => (nomatch z), h3⟩
    | k ys => obtain ⟨p, us, h1, h2, h3⟩ := g; exact ⟨p, us, h1, x _ _ h2 fun _ z => (nomatch z), h3⟩
  tmp := r.tmp
  own := r.own
  inj := r.inj
  hnt := r.hnt
  hid := fun p o h => by
    obtain ⟨h1, h2, h3, h4⟩ := r.hid p o h
    exact ⟨x _ _ h1 (r.hnt p o h).1, h2, h3, h4⟩
  st := fun hl m em => by
    obtain ⟨h0, h1, h2, h3, h4⟩ := r.st hl m em
    have dd : ∀ c, Cel H m c → Cel H' m c := fun c ⟨l, s, p, z⟩ => ⟨l, s, p, x _ _ z fun _ y => (nomatch y)⟩
    refine ⟨h0, h1, ?_, fun c hc => ?_, fun c hc => dd c (h4 c hc)⟩
    · obtain ⟨l, s, p, c, cs, a1, a2, q⟩ := h2
      exact ⟨l, s, p, c, cs, x _ _ a1 fun _ y => (nomatch y), x _ _ a2 fun _ y => (nomatch y), q⟩
    · obtain ⟨c', hc', _⟩ := h2.cel
      obtain ⟨l, s, p, z⟩ := dd c' hc'
      obtain rfl := hc.eq z
      exact h3 _ hc'
  tab := fun _ => tb
  tb := r.tb
end
section
variable {C : Ct} {A : TA} {dA : DA}
theorem wOut_of {K : PySem.W.Frag} {Q : VK} {k : D → Fr → Prop} {e : Fr} {c a : Addr} {f : Str} {y : D} {v : V} {H : Hp} (ha : H a = some (.xd [(f, v)])) (q : ∀ tag : Str, k (.tup [.str tag, y]) e → ∀ p, H p = none → Q (.ref p) (upd H p (.tup [.str tag, v]))) :
    ∀ {outs : List (Addr × Str × Str)}, wOutD K k e outs c f y → wOut K Q outs (.ref c) (some a) H
  | [], h => h.elim
  | (C, tag, g) :: r, ⟨b, h1, h2, h3⟩ => by
    refine ⟨b, h1, fun hb => ?_, fun hb => wOut_of ha q (h3 hb)⟩
    obtain ⟨rfl, rfl, hk⟩ := h2 hb
    exact ⟨rfl, a, _, v, rfl, ha, by simp [List.lookup], q tag hk⟩
theorem sim_lam {T : List (Addr × Str)} {outs : List (Addr × Str × Str)} {K : PySem.W.Frag} {d : SpP} (ht : C.R.tabs = true) (hT : C.R.T = T) (hK : C.R.K = K) (hS : ∀ a ps, C.R.S0 a ≠ some (.tbl ps)) (h1 : ∀ E, SimA ⟨C.R, E⟩ A dA) :
    SimE C (LamX.tLam T (TOut K outs) fun E => tCall (spPu K d) [] E A) (dLam K outs d dA) := by
  subst hK hT
  intro x lx e hd ts vs σ H Q k rp h q
  obtain ⟨S0, r0⟩ := rp
  refine ⟨r0.tab ht, fun H1 xt tb => ?_⟩
  have r1 := r0.extN hS ht xt tb
  have pair : ∀ {e1 : Fr} {y : D} {v : V} {H2 S2 : Hp} {us : List D} {ws : List V} {tag : Str}, RepS C.R hd e1 us ws σ H2 S2 → DsAt C.R.K C.R.mo S2 ts vs → DAt C.R.K C.R.mo S2 y v → k (.tup [.str tag, y]) e1 →
      ∀ p, H2 p = none → Q (.ref p) (upd H2 p (.tup [.str tag, v])) := by
    intro e1 y v H2 S2 us ws tag r2 t2 dv hk p hp
    have nw := New.one r2.sh hp (.tup [.str tag, v])
    refine q _ e1 _ _ hk ⟨_, (r2.grow nw).temps (.cons (.tup (.inl (.inl upd_same)) (.cons (.str _) (.cons (dv.mono nw.ss) .nil)) (by show 2 ≤ sizeLine; decide)) (t2.mono nw.ss))⟩
  refine h1 _ (fun _ _ _ _ => False) (fun _ _ _ _ _ _ _ _ _ _ _ _ _ z => z.elim) e hd ts vs σ H1 _ _ ⟨S0, r1⟩ h fun ys e1 ws H2 h2 hl r2 => ?_
  obtain ⟨S2, r2⟩ := r2
  obtain ⟨t1, t2⟩ := DsAt.split hl r2.tmp
  rw [List.append_nil]
  refine ⟨S2, _, ys, _, _, r2.sh, t1, h2, fun y v H3 S3 ky n dv => ⟨by show 2 ≤ sizeLine; decide, fun p hp => ⟨_, rfl, pair (r2.grow n) (t2.mono n.ss) dv ky p hp⟩⟩, fun c f y a v H3 S3 kx n dv ha => ?_⟩
  exact wOut_of ha (fun tag hk p hp => pair (r2.grow n) (t2.mono n.ss) dv hk p hp) kx
end
/-! ### promises of defs that draw and call with lambdas -/
structure NewL (T : List (Addr × Str)) (m : Addr) (S H S' H' : Hp) : Prop where
  hh : KpN m H H'
  ss : Same S S'
  sh : Same S' H'
  nw : ∀ a o, H a = some o → (∀ ps, o ≠ .tbl ps) → S a = none → S' a = none
  nt : ∀ a ps, S' a ≠ some (.tbl ps)
  tabs : LamX.Tabs T H'
def spSL (K : PySem.W.Frag) (T : List (Addr × Str)) (d : SpM) : Sp := fun vs H Q _ => ∃ (S : Hp) (m : Addr) (n : Nat) (ds : List D) (k : D → Nat → Prop), Same S H ∧ S m = none ∧ (∀ a ps, S a ≠ some (.tbl ps)) ∧ LamX.Tabs T H ∧ MAt H m n ∧ (∀ c, Cel H m c → ∃ o, S c = some o) ∧ DsAt K (some m) S ds vs ∧ d n ds k (fun _ _ _ _ => False) ∧
  (∀ y n' v H' S', k y n' → NewL T m S H S' H' → MAt H' m n' → (∀ c, Cel H m c → Cel H' m c) → DAt K (some m) S' y v → Q v H')
section
variable {vs : List V} {H : Hp} {E : XK} {t : TS} {K : PySem.W.Frag} {T : List (Addr × Str)}
theorem enterL {d : SpM} {N : List Str} {Q : VK} {dS : DS} (h : spSL K T d vs H Q E) (sim : ∀ S m, (∀ a ps, S a ≠ some (.tbl ps)) → SimS ⟨⟨K, H, S, some m, true, true, T⟩, E⟩ t dS)
    (go : ∀ n ds k, d n ds k (fun _ _ _ _ => False) → dS (fun _ _ _ _ => False) { nx := fun e => k .non e.n, rt := k, bk := fun _ => False, ct := fun _ => False } (startF n N ds)) :
    t { nx := fun _ H' => Q .non H', rt := Q } (start N vs) H := by
  obtain ⟨S, m, n, ds, k, sh, sm, snt, tbs, ma, ce, hd', hk, q⟩ := h
  have fin : ∀ {e : Fr} {hd : List (Addr × HO)} {ts : List D} {vs : List V} {σ : L2.St} {H' : Hp} {y : D} {v : V}, Rep ⟨K, H, S, some m, true, true, T⟩ hd e (y :: ts) (v :: vs) σ H' → ∃ S', NewL T m S H S' H' ∧ MAt H' m e.n ∧ (∀ c, Cel H m c → Cel H' m c) ∧ DAt K (some m) S' y v := by
    rintro e hd ts vs σ H' y v ⟨S', r⟩
    obtain ⟨h0, h1, h2, h3, h4⟩ := r.st rfl m rfl
    cases r.tmp with
    | cons c _ => exact ⟨S', ⟨fun a o ne h ho => r.keep a o (fun _ z => ne (Option.some.inj z)) (fun _ => ho) h, r.s0, r.sh, fun a o h ho q => r.old a o h (fun _ => ho) q, r.tb snt, r.tab rfl⟩, h2, h4, c⟩
  refine sim S m snt _ ?_ (startF n N ds) [] [] [] (start N vs) H _ _ (rep_start (R := ⟨K, H, S, some m, true, true, T⟩) sh hd' rfl rfl (fun _ m' em => ?_) fun _ => tbs) ?_ (go n ds k hk)
  · intro c f y e hd ts vs σ H' a v r ha kc
    exact kc.elim
  · obtain rfl : m = m' := Option.some.inj em
    exact ⟨sm, ma, ce⟩
  · refine ⟨fun e1 σ1 H1 r1 z => ?_, fun y v e1 σ1 H1 r1 z => ?_, fun e1 σ1 H1 r1 z => z.elim, fun e1 σ1 H1 r1 z => z.elim⟩
    · obtain ⟨S1, r1⟩ := r1
      obtain ⟨S', nw, h2, h4, dv⟩ := fin (y := .non) (v := .non) ⟨S1, r1.push .non⟩
      exact q _ _ _ _ _ z nw h2 h4 dv
    · obtain ⟨S', nw, h2, h4, dv⟩ := fin r1
      exact q _ _ _ _ _ z nw h2 h4 dv
theorem spSL_len {d : SpM} {m : Nat} {Q : VK} (hl : ∀ n ds k, d n ds k (fun _ _ _ _ => False) → ds.length = m) (h : spSL K T d vs H Q E) : vs.length = m := by
  obtain ⟨S, _, n, ds, k, sh, _, _, _, _, _, hd', hk, _⟩ := h
  rw [← hd'.length]
  exact hl _ _ _ hk
end
end Pu
namespace Pu
open PySem PySem.Spec PyProof.Rows L2 Gd RZ
/-- calls of such defs: they may be called from the law alone -/
def dCallL (d : SpM) (a : DA) : DE := fun x e k => a x e fun ys e1 => d e1.n ys (fun y n => k y { e1 with n := n }) fun _ _ _ _ => False
theorem inD_nil (x : D) : inD x [] = false := rfl
theorem inD_ss (a b : Str) (r : List D) : inD (.str a) (.str b :: r) = (decide (a = b) || inD (.str a) r) := by
  unfold inD
  rw [List.any_cons]
  congr 1
  show (b == a) = decide (a = b)
  by_cases c : a = b
  · subst c; simp
  · have c' : ¬ b = a := fun z => c z.symm
    simp [c, c']
theorem flatD_s (a : Str) : flatD (.str a) = true := rfl
theorem flatD_i (a : Int) : flatD (.int a) = true := rfl
theorem forL_nil (g : DG) (b : (Fr → Prop) → Fr → Prop) (nx : Fr → Prop) (e : Fr) : forL g b [] nx e = nx e := rfl
theorem forL_cons (g : DG) (b : (Fr → Prop) → Fr → Prop) (y : D) (r : List D) (nx : Fr → Prop) (e : Fr) : forL g b (y :: r) nx e = g y e fun e1 => b (forL g b r nx) e1 := rfl
theorem lcL_nil (x : DX) (g : DG) (t : DT) (a : DE) (ws : List Nat) (e : Fr) (k : List D → Fr → Prop) : lcL x g t a ws [] e k = k [] e := rfl
theorem lcL_cons (x : DX) (g : DG) (t : DT) (a : DE) (ws : List Nat) (y : D) (r : List D) (e : Fr) (k : List D → Fr → Prop) : lcL x g t a ws (y :: r) e k = g y e fun e1 => t x e1 fun b e2 => if b = true then a x e2 fun z e3 => lcL x g t a ws r (wipeF e3 ws) fun zs e4 => k (z :: zs) e4 else lcL x g t a ws r (wipeF e2 ws) k := rfl
/-- two fresh lists at once -/
def dParO (i j : Nat) (f g : DF) : DS := fun x k e => f x e fun ys e1 => g x e1 fun zs e2 => k.nx { e2 with g := (e2.g.set j (.l zs)).set i (.l ys) }
theorem sim_parO {C : Ct} {ta tb : TE} {f g : DF} {i j : Nat} (mi : OwnMark i) (mj : OwnMark j) (hij : i ≠ j) (h1 : SimF C ta f) (h2 : SimF C tb g) : SimS C (tPar i j (tCons ta (tCons tb tNil))) (dParO i j f g) := by
  intro x lx e hd ts vs σ H D' k rp L h
  refine h1 x lx e hd ts vs σ H _ _ rp h fun ys e1 p acc H1 S k1 hl ds np rs => ?_
  refine h2 x lx e1 _ (ys ++ ts) (acc ++ vs) σ H1 _ _ ⟨S, rs.temps (ds.append rs.tmp)⟩ k1 fun zs e2 q acc2 H2 S2 k2 hl2 ds2 np2 rs2 => ?_
  obtain ⟨t1, t2⟩ := DsAt.split ds.length rs2.tmp
  refine ⟨_, _, rfl, ?_⟩
  have a1 := (rs2.temps t2).adopt (w := .l zs) np2 rfl j ⟨q, acc2, rfl, (rs2.hid q _ List.mem_cons_self).1, ds2, hl2⟩
  have a2 := a1.adopt (w := .l ys) np rfl i ⟨p, acc, rfl, (a1.hid p _ List.mem_cons_self).1, t1, hl⟩
  rw [List.set_comm _ _ hij]
  exact L.nx _ _ _ ⟨S2, a2⟩ k2
/-- the greatest of a list, within comprehensions too -/
theorem cr_maxK {X : Cx} (K : PySem.W.Frag) (h : X.K = K) (hc : X.calm = true) : CallR X (.builtin "max") (rMax K) := h ▸ cr_max hc
theorem cr_minK {X : Cx} (K : PySem.W.Frag) (h : X.K = K) (hc : X.calm = true) : CallR X (.builtin "min") (rMin K) := h ▸ cr_min hc
end Pu

namespace Pu
open PySem PySem.Spec PyProof.Rows L2 Gd RZ
/-! ### zip of a tuple and two lists -/
def zip3D (xs ys zs : List D) : List D := (xs.zip (ys.zip zs)).map fun p => .tup [p.1, p.2.1, p.2.2]
def oZip3 : List D → (List D → Prop) → Prop := fun ds k => match ds with
  | [.tup a, .lst b, .lst c] => k (zip3D a b c)
  | _ => False
theorem oZip3_r {xs ys zs : List D} {kl : List D → Prop} : oZip3 [.tup xs, .lst ys, .lst zs] kl = kl (zip3D xs ys zs) := rfl
theorem zip3D_len (xs ys zs : List D) : (zip3D xs ys zs).length = min (min xs.length ys.length) zs.length := by
  unfold zip3D
  rw [List.length_map, List.length_zip, List.length_zip]
  omega
theorem zip3D_get {xs ys zs : List D} {i : Nat} {d : D} (h : (zip3D xs ys zs)[i]? = some d) : ∃ x y z, xs[i]? = some x ∧ ys[i]? = some y ∧ zs[i]? = some z ∧ d = .tup [x, y, z] := by
  unfold zip3D at h
  rw [List.getElem?_map] at h
  obtain ⟨p, h1, rfl⟩ := Option.map_eq_some_iff.mp h
  have hi : i < (xs.zip (ys.zip zs)).length := (List.getElem?_eq_some_iff.mp h1).1
  have e := (List.getElem?_eq_some_iff.mp h1).2
  rw [List.length_zip, List.length_zip] at hi
  rw [List.getElem_zip, List.getElem_zip] at e
  exact ⟨xs[i]'(by omega), ys[i]'(by omega), zs[i]'(by omega), List.getElem?_eq_getElem (by omega), List.getElem?_eq_getElem (by omega), List.getElem?_eq_getElem (by omega), by rw [← e]⟩
theorem zip3D_self {α β γ : Type} (f : α → D) (g : β → D) (g2 : γ → D) (h : α → β) (h2 : α → γ) (l : List α) : zip3D (l.map f) ((l.map h).map g) ((l.map h2).map g2) = l.map fun a => .tup [f a, g (h a), g2 (h2 a)] := by
  unfold zip3D
  induction l with
  | nil => rfl
  | cons x r ih =>
    simp only [List.map_cons, List.zip_cons_cons] at ih ⊢
    rw [ih]
section
variable {C : Ct} {K : PySem.W.Frag} {A : TA} {dA : DA} {H S H' : Hp} {mo : Option Addr}
theorem DsAt.three {xs : List V} {x y z : D} (h : DsAt K mo S [x, y, z] xs) : ∃ u v w, xs = [u, v, w] ∧ DAt K mo S x u ∧ DAt K mo S y v ∧ DAt K mo S z w := by
  cases h with
  | cons a r =>
    cases r with
    | cons b r =>
      cases r with
      | cons c r =>
        cases r
        exact ⟨_, _, _, rfl, a, b, c⟩
theorem triple_new {x y z : D} {u v w : V} {T : Addr} (sh : Same S H) (hT : H T = none) (dx : DAt K mo S x u) (dy : DAt K mo S y v) (dz : DAt K mo S z w) : ∃ S', New S H S' (upd H T (.tup [u, v, w])) ∧ DAt K mo S' (.tup [x, y, z]) (.ref T) := by
  have n := New.one sh hT (.tup [u, v, w])
  exact ⟨_, n, .tup (sqT upd_same) (.cons (dx.mono n.ss) (.cons (dy.mono n.ss) (.cons (dz.mono n.ss) .nil))) (by show 3 ≤ sizeLine; decide)⟩
theorem walk_z3 {p q o : Addr} {xs ys zs : List D} (hx : xs.length ≤ sizeLine) : WalkD C [.tup xs, .lst ys, .lst zs] [.ref p, .ref q, .ref o] (ItzT3 C.R.K p q o) (zip3D xs ys zs) := by
  refine ⟨by rw [zip3D_len]; omega, fun S H sh d => ?_⟩
  obtain ⟨v, w, t, e, c1, c2, c3⟩ := d.three
  cases e
  obtain ⟨_, vs, ep, g1, g2, _⟩ := c1.tup_inv
  cases ep
  obtain ⟨_, ws, ep, g3, g4, _⟩ := c2.lst_inv
  cases ep
  obtain ⟨_, us, ep, g5, g6, _⟩ := c3.lst_inv
  cases ep
  have s1 := sh.seqT g1
  have s2 := sqL (K := C.R.K) (sh _ _ g3)
  have s3 := sqL (K := C.R.K) (sh _ _ g5)
  refine ⟨⟨vs, ws, us, s1, s2, s3, by rw [zip3D_len, g2.length, g4.length, g6.length]⟩, fun i d hi => ?_⟩
  obtain ⟨x, y, z, e1, e2, e3, rfl⟩ := zip3D_get hi
  obtain ⟨u, f1, f2⟩ := g2.get e1
  obtain ⟨v, f3, f4⟩ := g4.get e2
  obtain ⟨w, f5, f6⟩ := g6.get e3
  refine ⟨⟨vs, ws, us, u, v, w, s1, s2, s3, f1, f3, f5⟩, fun w' H' hy => ?_⟩
  obtain ⟨T, a, b, c, rfl, hT, rfl, k1, k2, k3⟩ := hy
  have := k1 vs s1
  rw [f1] at this; cases this
  have := k2 ws s2
  rw [f3] at this; cases this
  have := k3 us s3
  rw [f5] at this; cases this
  exact triple_new sh hT f2 f4 f6
theorem sim_iZ3 (hK : C.R.K = K) (h1 : SimA C A dA) : SimI C (iZip3 K A) (dItA dA oZip3) := by
  subst hK
  intro x lx e hd ts vs σ H Q k rp h q
  refine h1 x lx e hd ts vs σ H _ _ rp h fun ys e1 ws H1 h1' hl r1 => ?_
  unfold oZip3 at h1'
  split at h1'
  · rename_i xs zs us
    obtain ⟨S, r⟩ := id r1
    obtain ⟨v, w, t, rfl, c1, c2, c3⟩ := (DsAt.split hl r.tmp).1.three
    obtain ⟨p, ps, rfl, g1, g2, g3⟩ := c1.tup_inv
    obtain ⟨p', ps', rfl, f1, f2, f3⟩ := c2.lst_inv
    obtain ⟨p2, ps2, rfl, k1, k2, k3⟩ := c3.lst_inv
    exact ⟨p, p', p2, ps, ps', ps2, rfl, r.sh.seqT g1, sqL (r.sh _ _ f1), sqL (r.sh _ _ k1), q _ e1 _ _ [.tup xs, .lst zs, .lst us] [.ref p, .ref p', .ref p2] h1' rfl r1 (walk_z3 g3)⟩
  · exact h1'.elim
/-- three names at once -/
def dPar3 (i j l : Nat) (a : DA) : DS := fun x k e => a x e fun ys e1 => match ys with
  | [y, z, w] => k.nx { e1 with g := ((e1.g.set i (.d y)).set j (.d z)).set l (.d w) }
  | _ => False
theorem sim_par3 {i j l : Nat} (h1 : SimA C A dA) : SimS C (tPar3 i j l A) (dPar3 i j l dA) := by
  intro x lx e hd ts vs σ H D' k rp L h
  refine h1 x lx e hd ts vs σ H _ _ rp h fun ys e1 ws H1 h1' hl r1 => ?_
  obtain ⟨S, r1⟩ := r1
  obtain ⟨t1, t2⟩ := DsAt.split hl r1.tmp
  match ys, ws, t1, h1' with
  | [y, z, w], [u, v, t], .cons c1 (.cons c2 (.cons c3 .nil)), h1' => exact ⟨u, v, t, rfl, L.nx _ _ _ ⟨S, (((r1.temps t2).set c1 i).set c2 j).set c3 l⟩ h1'⟩
end
/-! ### statements passed one by one -/
theorem seq_with {t u : DS} {x : DX} {k : DEn} {e : Fr} (I : Fr → Prop) (h : ∀ k' : DEn, (∀ e, I e → k'.nx e) → t x k' e) (q : ∀ e, I e → u x k e) : dSeq t u x k e := h _ q
/-- a statement that may end the body: what it returns is told too -/
theorem seq_ends {t u : DS} {x : DX} {k : DEn} {e : Fr} (I : Fr → Prop) (h : ∀ k' : DEn, (∀ e, I e → k'.nx e) → k'.rt = k.rt → k'.bk = k.bk → k'.ct = k.ct → t x k' e) (q : ∀ e, I e → u x k e) : dSeq t u x k e := h _ q rfl rfl rfl
theorem for_with {α : Type} {i : DI} {g : DG} {b : DS} {x : DX} {k : DEn} {e : Fr} {l0 : List α} (f : α → D) (W : List α → Fr → Prop) (e1 : Fr)
    (hi : ∀ K : List D → Fr → Prop, K (l0.map f) e1 → i x e K) (h : W [] e1) (h0 : ∀ e, W l0 e → k.nx e)
    (hs : ∀ l y r e (k' : DEn), l0 = l ++ y :: r → W l e → (∀ e', W (l ++ [y]) e' → k'.nx e') → (∀ e', W (l ++ [y]) e' → k'.ct e') → k'.rt = k.rt → k'.bk = k.nx → g (f y) e fun e2 => b x k' e2) : dFor i g b x k e :=
  hi _ (dforM f W h h0 fun l y r e N h1 hw hN => hs l y r e { k with nx := N, ct := N, bk := k.nx } h1 hw hN hN rfl rfl)
theorem if_same {α : Type} [DecidableEq α] {a b : α} {F G : Prop} (h : a = b) (g : G) : if (!decide (a = b)) = true then F else G := by
  subst h
  rw [if_neg (by simp)]
  exact g
section
def oLcm : List D → (D → Prop) → Prop := fun ys k => match ys with
  | [.int a, .int b] => a.natAbs < 2 ^ 64 ∧ b.natAbs < 2 ^ 64 ∧ k (.int ((Nat.lcm a.natAbs b.natAbs : Nat) : Int))
  | _ => False
theorem oLcm_r {a b : Int} {k : D → Prop} : oLcm [.int a, .int b] k = (a.natAbs < 2 ^ 64 ∧ b.natAbs < 2 ^ 64 ∧ k (.int ((Nat.lcm a.natAbs b.natAbs : Nat) : Int))) := rfl
theorem simb_lcm : SimB C rLcm oLcm := by
  intro xs us S H Q k sh ds h q
  unfold oLcm at h
  split at h
  · obtain ⟨v, w, rfl, d1, d2⟩ := ds.two
    rw [d1.int_inv, d2.int_inv]
    obtain ⟨h1, h2, h⟩ := h
    exact ⟨_, _, rfl, h1, h2, q _ _ S H h (New.refl sh) (.int _)⟩
  · exact h.elim
/-- a value and a fresh list at once -/
def dParP (i j : Nat) (a : DE) (g : DF) : DS := fun x k e => a x e fun y e1 => g x e1 fun zs e2 => k.nx { e2 with g := (e2.g.set i (.d y)).set j (.l zs) }
theorem sim_parP {ta tb : TE} {a : DE} {g : DF} {i j : Nat} (mj : OwnMark j) (h1 : SimE C ta a) (h2 : SimF C tb g) : SimS C (tPar i j (tCons ta (tCons tb tNil))) (dParP i j a g) := by
  intro x lx e hd ts vs σ H D' k rp L h
  refine h1 x lx e hd ts vs σ H _ _ rp h fun y e1 v H1 k1 r1 => ?_
  refine h2 x lx e1 hd (y :: ts) (v :: vs) σ H1 _ _ r1 k1 fun zs e2 q acc2 H2 S2 k2 hl2 ds2 np2 rs2 => ?_
  cases rs2.tmp with
  | cons c t =>
    refine ⟨v, .ref q, rfl, ?_⟩
    have a0 := (rs2.temps t).set c i
    have a2 := a0.adopt (w := .l zs) np2 rfl j ⟨q, acc2, rfl, (rs2.hid q _ List.mem_cons_self).1, ds2, hl2⟩
    exact L.nx _ _ _ ⟨S2, a2⟩ k2
end
section
variable {X : Cx} {CX : CXT} {k : Nat} {f : Addr} {fd : FuncData} {ps : List Str} {sp : Sp} {dvs : List V} {ds : List Value} {E : XK} {x : Str} {p pos : Pos}
/-- f() where no guard stands around -/
theorem pe_callG0 (F : FnG X.prog X.w X.K X.mg X.base CX k f fd ps sp) (hr : Room k X.A) (gd : X.A.guards = some []) (hg : Gl X x)
    (hm : X.mg x = some (.ref f)) (hk : PySem.W.keepIn X.K (.ref f) = true) (hb : Binds X.K fd ps ds) (hd : Vals dvs ds) (hx : Passes CX X E)
    (hdb : (x == ("__debug__" : Str)) = false := by decide) : PE X (.Call (.Name x p) [] [] pos) (tCall sp dvs E tNil) := by
  constructor
  intro pins s σ H Q I h
  apply wpAny_Call_Name_kw
  apply ld_glob I hg hm _ hdb
  exact PySem.W.callWith_K0 (K := X.K) I.kIn hk (runG F hr gd hb hd hx I .nil h)
end
end Pu

namespace Pu
open PySem PySem.Spec PyProof.Rows L2 Gd RZ
/-! ### texts: signs in them, put together, looked into; calls of what was handed over by name -/
theorem occ_sign (z : Str) (c : Nat) : (!(Builtin.Str.occurrences z ⟨#[c]⟩ 0 z.length 1).isEmpty) = decide (c ∈ z.cps.toList) := by
  rw [Bool.eq_iff_iff, PySem.StrLaws.found_iff, decide_eq_true_iff]
  unfold Builtin.Str.subAt
  have l1 : (⟨#[c]⟩ : Str).length = 1 := rfl
  rw [l1]
  constructor
  · rintro ⟨i, h1, h2⟩
    have h3 : z.cps.extract i (i + 1) = #[c] := by simpa using h2
    have h4 : c ∈ (z.cps.extract i (i + 1)).toList := by rw [h3]; simp
    rw [Array.toList_extract] at h4
    exact List.mem_of_mem_drop (List.mem_of_mem_take h4)
  · intro h
    obtain ⟨i, hi, e⟩ := List.getElem_of_mem h
    refine ⟨i, by show i + 1 ≤ z.cps.size; rw [Array.length_toList] at hi; omega, ?_⟩
    have : z.cps.extract i (i + 1) = #[c] := by
      apply Array.ext'
      rw [Array.toList_extract]
      show List.take (i + 1 - i) (List.drop i z.cps.toList) = [c]
      rw [List.drop_eq_getElem_cons hi, e, show i + 1 - i = 1 by omega]
      rfl
    rw [this]
    simp
def oAddS : D → D → (D → Prop) → Prop := fun x y k => match x, y with
  | .str i, .str j => i.length + j.length ≤ 1000000 ∧ k (.str (i ++ j))
  | _, _ => False
def oInSg (neg : Bool) : D → D → (D → Prop) → Prop := fun x y k => ∃ (c : Nat) (z : Str), x = .str ⟨#[c]⟩ ∧ y = .str z ∧ k (.bl (if neg then !decide (c ∈ z.cps.toList) else decide (c ∈ z.cps.toList)))
def oIxStr : D → D → (D → Prop) → Prop := fun x y k => match x, y with
  | .str z, .int i => z.length ≤ 1000000 ∧ ∃ c, atI z.cps.toList i = some c ∧ k (.str ⟨#[c]⟩)
  | _, _ => False
def oLenS : List D → (D → Prop) → Prop := fun xs k => match xs with
  | [.str z] => z.length ≤ 1000000 ∧ k (.int z.length)
  | _ => False
theorem oAddS_r {i j : Str} {k : D → Prop} : oAddS (.str i) (.str j) k = (i.length + j.length ≤ 1000000 ∧ k (.str (i ++ j))) := rfl
theorem oIxStr_r {z : Str} {i : Int} {k : D → Prop} : oIxStr (.str z) (.int i) k = (z.length ≤ 1000000 ∧ ∃ c, atI z.cps.toList i = some c ∧ k (.str ⟨#[c]⟩)) := rfl
theorem oLenS_r {z : Str} {k : D → Prop} : oLenS [.str z] k = (z.length ≤ 1000000 ∧ k (.int z.length)) := rfl
theorem room65 {k : Nat} {A : Around} (h : Room k A) : A.units + 65 < cLine := by
  have := h.un
  omega
/-- x in t, t a tuple of data of any kind -/
def rInDT (K : PySem.W.Frag) : R2 := fun x y H Q => ∃ (d : PyData) (ds : List PyData), Dp K H x d ∧ Dp K H y (.tuple ds) ∧ SeqAt.shaped d = true ∧ SeqAt.shaped (.tuple ds) = true ∧ Q (.bl (ds.any fun z => PyData.eqv z d)) H
theorem inDTK {X : Cx} (K : PySem.W.Frag) (hu : X.A.units + 65 < cLine) (hK : X.K = K := by rfl) : OpR X (compareOp .In) (rInDT K) := by
  subst hK
  intro pins s σ H x y v u Q I rx ry h
  obtain ⟨d, ds, hd, he, sd, se, q⟩ := h
  obtain ⟨as, r1⟩ := Dp.reads I d x v hd rx
  obtain ⟨bs, r2⟩ := Dp.reads I (.tuple ds) y u he ry
  exact SeqAt.in_tuple_reads r2 r1 (SeqAt.canLay_of_shaped se) (SeqAt.canLay_of_shaped sd) (PyProof.Rows.room_in_shaped sd hu) ⟨.bl (ds.any fun y => y.eqv d), H, I, rfl, q⟩
def oInDT : D → D → (D → Prop) → Prop := fun x y k => match y with
  | .tup ys => x.plain = true ∧ (D.tup ys).plain = true ∧ SeqAt.shaped x.py = true ∧ SeqAt.shaped (D.tup ys).py = true ∧ k (.bl ((pyAll ys).any fun z => PyData.eqv z x.py))
  | _ => False
theorem oInDT_r {x : D} {ys : List D} {k : D → Prop} : oInDT x (.tup ys) k = (x.plain = true ∧ (D.tup ys).plain = true ∧ SeqAt.shaped x.py = true ∧ SeqAt.shaped (D.tup ys).py = true ∧ k (.bl ((pyAll ys).any fun z => PyData.eqv z x.py))) := rfl
section
variable {C : Ct} {K : PySem.W.Frag} {A : TA} {dA : DA} {H S H' : Hp} {mo : Option Addr}
theorem simr_addS : SimR C (fun x y H Q => ∃ i j : Str, x = .str i ∧ y = .str j ∧ i.length + j.length ≤ sizeLine ∧ Q (.str (i ++ j)) H) oAddS := by
  intro x y v w S H Q k sh dx dy h q
  unfold oAddS at h
  split at h
  · cases dx
    cases dy
    exact ⟨_, _, rfl, rfl, by rw [sizeLine_eq]; omega, q _ _ S H h.2 (New.refl sh) (.str _)⟩
  · exact h.elim
theorem simr_inS : SimR C (fun x y H Q => ∃ i j : Str, x = .str i ∧ y = .str j ∧ Q (.bl (!(Builtin.Str.occurrences j i 0 j.length 1).isEmpty)) H) (oInSg false) := by
  intro x y v w S H Q k sh dx dy h q
  obtain ⟨c, z, rfl, rfl, h⟩ := h
  cases dx
  cases dy
  rw [if_neg Bool.false_ne_true, ← occ_sign] at h
  exact ⟨_, _, rfl, rfl, q _ _ S H h (New.refl sh) (.bl _)⟩
theorem simr_notinS : SimR C (fun x y H Q => ∃ i j : Str, x = .str i ∧ y = .str j ∧ Q (.bl (!(!(Builtin.Str.occurrences j i 0 j.length 1).isEmpty))) H) (oInSg true) := by
  intro x y v w S H Q k sh dx dy h q
  obtain ⟨c, z, rfl, rfl, h⟩ := h
  cases dx
  cases dy
  rw [if_pos rfl, ← occ_sign] at h
  exact ⟨_, _, rfl, rfl, q _ _ S H h (New.refl sh) (.bl _)⟩
theorem simr_ixS : SimR C rIxS oIxStr := by
  intro x y v w S H Q k sh dx dy h q
  unfold oIxStr at h
  split at h
  · cases dx
    cases dy
    obtain ⟨h1, c, h2, h3⟩ := h
    exact ⟨_, _, c, rfl, rfl, by rw [sizeLine_eq]; omega, h2, q _ _ S H h3 (New.refl sh) (.str _)⟩
  · exact h.elim
theorem simb_lenS : SimB C (fun xs H Q => ∃ z : Str, xs = [.str z] ∧ z.length ≤ sizeLine ∧ Q (.int z.length) H) oLenS := by
  intro xs us S H Q k sh ds h q
  unfold oLenS at h
  split at h
  · obtain ⟨v, rfl, d⟩ := DsAt.one (v := .non) ds
    cases d
    exact ⟨_, rfl, by rw [sizeLine_eq]; omega, q _ _ S H h.2 (New.refl sh) (.int _)⟩
  · exact h.elim
/-- a def that was handed over, called by the name that holds it -/
def dCallLo (i : Nat) (f : Addr) (d : SpP) (a : DA) : DE := fun x e k => e.g[i]? = some (.d (.raw (.ref f))) ∧ a x e fun ys e1 => d ys (fun y => k y e1) fun _ _ _ => False
theorem sim_callLo {d : SpP} {i : Nat} {f : Addr} (hK : C.R.K = K) (h1 : SimA C A dA) : SimE C (tCallL i f (spPu K d) [] E A) (dCallLo i f d dA) := by
  subst hK
  intro x lx e hd ts vs σ H Q k rp h q
  obtain ⟨h0, h⟩ := h
  have hs : σ[i]? = some (some (.ref f)) := by
    obtain ⟨S, r⟩ := id rp
    obtain ⟨v, e1, e2⟩ := r.slots i _ h0
    cases e2
    exact e1
  refine ⟨hs, ?_⟩
  refine h1 x lx e hd ts vs σ H _ _ rp h fun ys e1 ws H1 h1' hl r1 => ?_
  obtain ⟨S, r1⟩ := r1
  obtain ⟨t1, t2⟩ := DsAt.split hl r1.tmp
  rw [List.append_nil]
  exact ⟨S, _, ys, _, _, r1.sh, t1, h1', fun y v H' S' ky n dv => q _ _ _ _ ky ⟨S', (r1.grow n).temps (.cons dv (t2.mono n.ss))⟩, fun _ _ _ _ _ _ _ z => z.elim⟩
/-- a written dict of four texts and numbers -/
def kDisp4 (a b c d : Str) (i j l m : Int) : DKF := fun _ e k => k (mergeD [] [(.inr a, .int i), (.inr b, .int j), (.inr c, .int l), (.inr d, .int m)]) e
theorem simr_inDT (hK : C.R.K = K) : SimR C (rInDT K) oInDT := by
  subst hK
  intro x y v w S H Q k sh dx dy h q
  unfold oInDT at h
  split at h
  · obtain ⟨h1, h2, h3, h4, h5⟩ := h
    exact ⟨_, _, dp_of sh dx h1, dp_of sh dy h2, h3, h4, q _ _ S H h5 (New.refl sh) (.bl _)⟩
  · exact h.elim
theorem upd_twice (H : Hp) (p : Addr) (o u : HO) : upd (upd H p o) p u = upd H p u := by
  funext a
  unfold upd
  split <;> rfl
theorem simk_disp4 {a b c d : Str} {i j l m : Int} : SimKF C (tDisp [(tC (.str a), tC (.int i)), (tC (.str b), tC (.int j)), (tC (.str c), tC (.int l)), (tC (.str d), tC (.int m))]) (kDisp4 a b c d i j l m) := by
  intro x lx e hd ts vs σ H Q k rp h q
  obtain ⟨S, r⟩ := rp
  unfold tDisp
  simp only [tPairs, tC]
  intro p hp
  refine ⟨upd_same, [(.inr a, .int i), (.inr b, .int j), (.inr c, .int l), (.inr d, .int m)], rfl, by show 4 ≤ 15; decide, ?_⟩
  rw [upd_twice]
  refine q _ e p _ _ S h ?_ (merge_at (ks := [.inr a, .inr b, .inr c, .inr d]) (.cons (.int i) (.cons (.int j) (.cons (.int l) (.cons (.int m) .nil)))) .nil) (new_hid r hp) (r.hide hp _)
  have := mergeD_len [((.inr a : Key), D.int i), (.inr b, .int j), (.inr c, .int l), (.inr d, .int m)] []
  have h0 : ([] : List (Key × D)).length = 0 := rfl
  have h4 : [((.inr a : Key), D.int i), (.inr b, .int j), (.inr c, .int l), (.inr d, .int m)].length = 4 := rfl
  rw [sizeLine_eq]
  omega
end
end Pu

namespace Pu
open PySem PySem.Spec PyProof.Rows L2 Gd RZ
/-! ### tuples of numbers in their order -/
def oMin2T : List D → (D → Prop) → Prop := fun xs k => match xs with
  | [.tup xs, .tup ys] => ∃ ns ms, intsD xs = some ns ∧ intsD ys = some ms ∧ k (.tup (if HT.lexLt ms ns = true then ys else xs))
  | _ => False
def oMax2T : List D → (D → Prop) → Prop := fun xs k => match xs with
  | [.tup xs, .tup ys] => ∃ ns ms, intsD xs = some ns ∧ intsD ys = some ms ∧ k (.tup (if HT.lexLt ns ms = true then ys else xs))
  | _ => False
def oGeT : D → D → (D → Prop) → Prop := fun x y k => match x, y with
  | .tup xs, .tup ys => ∃ ns ms, intsD xs = some ns ∧ intsD ys = some ms ∧ k (.bl (!HT.lexLt ns ms))
  | _, _ => False
theorem oMin2T_r {xs ys : List D} {k : D → Prop} : oMin2T [.tup xs, .tup ys] k = ∃ ns ms, intsD xs = some ns ∧ intsD ys = some ms ∧ k (.tup (if HT.lexLt ms ns = true then ys else xs)) := rfl
theorem oMax2T_r {xs ys : List D} {k : D → Prop} : oMax2T [.tup xs, .tup ys] k = ∃ ns ms, intsD xs = some ns ∧ intsD ys = some ms ∧ k (.tup (if HT.lexLt ns ms = true then ys else xs)) := rfl
theorem oGeT_r {xs ys : List D} {k : D → Prop} : oGeT (.tup xs) (.tup ys) k = ∃ ns ms, intsD xs = some ns ∧ intsD ys = some ms ∧ k (.bl (!HT.lexLt ns ms)) := rfl
section
variable {C : Ct} {K : PySem.W.Frag} {H S : Hp}
theorem simb_min2T (hK : C.R.K = K) : SimB C (rMin2T K) oMin2T := by
  subst hK
  intro xs us S H Q k sh ds h q
  unfold oMin2T at h
  split at h
  · obtain ⟨v, w, rfl, c, c'⟩ := DsAt.two ds
    obtain ⟨p, us, rfl, g1, g2, g3⟩ := c.tup_inv
    obtain ⟨p', us', rfl, g1', g2', g3'⟩ := c'.tup_inv
    obtain ⟨ns, ms, e, e', k1⟩ := h
    refine ⟨p, p', ns, ms, rfl, by rw [← ints_at e g2]; exact sh.seqT g1, by rw [← ints_at e' g2']; exact sh.seqT g1', ?_⟩
    refine q _ _ S H k1 (New.refl sh) ?_
    split
    · exact c'
    · exact c
  · exact h.elim
theorem simb_max2T (hK : C.R.K = K) : SimB C (rMax2T K) oMax2T := by
  subst hK
  intro xs us S H Q k sh ds h q
  unfold oMax2T at h
  split at h
  · obtain ⟨v, w, rfl, c, c'⟩ := DsAt.two ds
    obtain ⟨p, us, rfl, g1, g2, g3⟩ := c.tup_inv
    obtain ⟨p', us', rfl, g1', g2', g3'⟩ := c'.tup_inv
    obtain ⟨ns, ms, e, e', k1⟩ := h
    refine ⟨p, p', ns, ms, rfl, by rw [← ints_at e g2]; exact sh.seqT g1, by rw [← ints_at e' g2']; exact sh.seqT g1', ?_⟩
    refine q _ _ S H k1 (New.refl sh) ?_
    split
    · exact c'
    · exact c
  · exact h.elim
theorem simr_geT (hK : C.R.K = K) : SimR C (rGeT K) oGeT := by
  subst hK
  intro x y v w S H Q k sh dx dy h q
  unfold oGeT at h
  split at h
  · obtain ⟨p, vs, rfl, h1, h2, h3⟩ := dx.tup_inv
    obtain ⟨p', ws, rfl, g1, g2, g3⟩ := dy.tup_inv
    obtain ⟨ns, ms, e, e', k1⟩ := h
    exact ⟨p, p', ns, ms, rfl, rfl, by rw [← Pu.ints_at e h2]; exact sh.seqT h1, by rw [← Pu.ints_at e' g2]; exact sh.seqT g1, q _ _ S H k1 (New.refl sh) (.bl _)⟩
  · exact h.elim
end
/-- a comprehension whose turns draw: what each makes is I, the frame's word W goes by the number of turns done -/
theorem dlcN {α β : Type} {x : DX} {g : DG} {a : DE} {ws : List Nat} {l0 : List α} {e : Fr} {k : List D → Fr → Prop} (f : α → D) (h : β → D) (I : β → Prop) (W : Nat → Fr → Prop) (h0 : W 0 e)
    (hs : ∀ n, ∀ y ∈ l0, ∀ e1, n < l0.length → W n e1 → ∀ (K : D → Fr → Prop), (∀ b e2, I b → W (n + 1) (wipeF e2 ws) → K (h b) e2) → g (f y) e1 fun e2 => a x e2 K)
    (q : ∀ (zs : List β) e', zs.length = l0.length → (∀ z ∈ zs, I z) → W l0.length e' → k (zs.map h) e') : lcL x g dYes a ws (l0.map f) e k := by
  refine dlcW (fun r acc e' => ∃ (l l' : List α) (zs : List β), l0 = l ++ l' ∧ r = l'.map f ∧ acc = zs.map h ∧ zs.length = l.length ∧ (∀ z ∈ zs, I z) ∧ W l.length e') ?_ (acc := []) ⟨[], l0, [], rfl, rfl, rfl, rfl, (fun _ h => nomatch h), h0⟩ fun zs e' ⟨l, l', us, h1, h2, h3, h4, h5, h6⟩ => ?_
  · rintro y r acc e' ⟨l, l', us, h1, h2, h3, h4, h5, h6⟩ K K' hK _
    cases l' with
    | nil => cases h2
    | cons z l' =>
      rw [List.map_cons] at h2
      injection h2 with h2 h7
      subst h2
      simp only [dYes, if_true]
      refine hs l.length z (by rw [h1]; simp) e' (by rw [h1, List.length_append, List.length_cons]; omega) h6 K fun b e2 hb hw => hK _ _ ⟨l ++ [z], l', us ++ [b], by rw [h1]; simp, h7, by rw [h3]; simp, by rw [List.length_append, List.length_append, h4]; rfl, fun u hu => ?_, by rw [List.length_append]; exact hw⟩
      rcases List.mem_append.mp hu with hu | hu
      · exact h5 u hu
      · rw [List.mem_singleton.mp hu]; exact hb
  · cases l' with
    | cons _ _ => cases h2
    | nil =>
      rw [List.append_nil] at h1
      subst h1
      have : zs = us.map h := by simpa using h3
      rw [this]
      exact q us e' h4 h5 h6
end Pu

namespace Gd
open PySem PySem.Spec PyProof.Rows L2
/-- a call whose value is told in a list -/
def TOutL (K : PySem.W.Frag) (l : List (Addr × Str × Str)) : (XK → Hp → VK → Prop) → Hp → VK → Prop := fun tl H Q =>
  tl (wOut K Q l) H fun v H1 => ([v] : List V).length ≤ sizeLine ∧ ∀ p, H1 p = none → Q (.ref p) (upd H1 p (.lst [v]))
end Gd
namespace Pu
open PySem PySem.Spec PyProof.Rows L2 Gd RZ
def dLamL (K : PySem.W.Frag) (outs : List (Addr × Str × Str)) (d : SpP) (a : DA) : DE := fun x e k => a (fun _ _ _ _ => False) e fun ys e1 => d ys (fun y => k (.lst [y]) e1) fun c f y => wOutD K k e1 outs c f y
section
variable {C : Ct} {A : TA} {dA : DA}
theorem sim_lamL {T : List (Addr × Str)} {outs : List (Addr × Str × Str)} {K : PySem.W.Frag} {d : SpP} (ht : C.R.tabs = true) (hT : C.R.T = T) (hK : C.R.K = K) (hS : ∀ a ps, C.R.S0 a ≠ some (.tbl ps)) (h1 : ∀ E, SimA ⟨C.R, E⟩ A dA) :
    SimE C (LamX.tLam T (TOutL K outs) fun E => tCall (spPu K d) [] E A) (dLamL K outs d dA) := by
  subst hK hT
  intro x lx e hd ts vs σ H Q k rp h q
  obtain ⟨S0, r0⟩ := rp
  refine ⟨r0.tab ht, fun H1 xt tb => ?_⟩
  have r1 := r0.extN hS ht xt tb
  have pair : ∀ {e1 : Fr} {y : D} {v : V} {H2 S2 : Hp} {us : List D} {ws : List V} {tag : Str}, RepS C.R hd e1 us ws σ H2 S2 → DsAt C.R.K C.R.mo S2 ts vs → DAt C.R.K C.R.mo S2 y v → k (.tup [.str tag, y]) e1 →
      ∀ p, H2 p = none → Q (.ref p) (upd H2 p (.tup [.str tag, v])) := by
    intro e1 y v H2 S2 us ws tag r2 t2 dv hk p hp
    have nw := New.one r2.sh hp (.tup [.str tag, v])
    refine q _ e1 _ _ hk ⟨_, (r2.grow nw).temps (.cons (.tup (.inl (.inl upd_same)) (.cons (.str _) (.cons (dv.mono nw.ss) .nil)) (by show 2 ≤ sizeLine; decide)) (t2.mono nw.ss))⟩
  have one : ∀ {e1 : Fr} {y : D} {v : V} {H2 S2 : Hp} {us : List D} {ws : List V}, RepS C.R hd e1 us ws σ H2 S2 → DsAt C.R.K C.R.mo S2 ts vs → DAt C.R.K C.R.mo S2 y v → k (.lst [y]) e1 →
      ∀ p, H2 p = none → Q (.ref p) (upd H2 p (.lst [v])) := by
    intro e1 y v H2 S2 us ws r2 t2 dv hk p hp
    have nw := New.one r2.sh hp (.lst [v])
    refine q _ e1 _ _ hk ⟨_, (r2.grow nw).temps (.cons (.lst upd_same (.cons (dv.mono nw.ss) .nil) (by show 1 ≤ sizeLine; decide)) (t2.mono nw.ss))⟩
  refine h1 _ (fun _ _ _ _ => False) (fun _ _ _ _ _ _ _ _ _ _ _ _ _ z => z.elim) e hd ts vs σ H1 _ _ ⟨S0, r1⟩ h fun ys e1 ws H2 h2 hl r2 => ?_
  obtain ⟨S2, r2⟩ := r2
  obtain ⟨t1, t2⟩ := DsAt.split hl r2.tmp
  rw [List.append_nil]
  refine ⟨S2, _, ys, _, _, r2.sh, t1, h2, fun y v H3 S3 ky n dv => ⟨by show 1 ≤ sizeLine; decide, fun p hp => one (r2.grow n) (t2.mono n.ss) dv ky p hp⟩, fun c f y a v H3 S3 kx n dv ha => ?_⟩
  exact wOut_of ha (fun tag hk p hp => pair (r2.grow n) (t2.mono n.ss) dv hk p hp) kx
end
/-! ### range with a step -/
def rangeC (a c : Int) (n : Nat) : List D := (List.range n).map fun i => .int (a + (i : Nat) * c)
def oRng3 : List D → (List D → Prop) → Prop := fun ys k => match ys with
  | [.int a, .int b, .int c] => ∃ n, RgC a b c n ∧ n ≤ 1000000 ∧ k (rangeC a c n)
  | _ => False
theorem oRng3_r {a b c : Int} {k : List D → Prop} : oRng3 [.int a, .int b, .int c] k = ∃ n, RgC a b c n ∧ n ≤ 1000000 ∧ k (rangeC a c n) := rfl
theorem rgc_pos {a b c : Int} {n : Nat} (h0 : 0 < c) (h1 : c ≤ 1000000) (ha : -1000000000 ≤ a) (ha' : a ≤ 1000000000) (hb : -1000000000 ≤ b) (hb' : b ≤ 1000000000) (hn : (if a < b then (b - a - 1) / c + 1 else 0) = (n : Int)) (hn' : n ≤ 2000000000) : RgC a b c n := by
  have e : Builtin.Range.rangeSize a b c = (n : Int) := by
    unfold Builtin.Range.rangeSize
    rw [if_pos (show c > 0 from h0)]
    exact hn
  have f : ∀ z : Int, -4000000000 ≤ z → z ≤ 4000000000 → Builtin.Range.rangeFitsLong z = true := fun z z0 z1 => by
    unfold Builtin.Range.rangeFitsLong
    simp only [Bool.and_eq_true, decide_eq_true_iff]
    omega
  refine ⟨by omega, by omega, ?_, e⟩
  unfold Builtin.Range.small
  rw [e, if_pos (show c > 0 from h0), f a (by omega) (by omega), f b (by omega) (by omega), f c (by omega) (by omega), f n (by omega) (by omega), f (b + (c - 1)) (by omega) (by omega)]
  simp
section
variable {C : Ct} {A : TA} {dA : DA}
theorem rangeC_len (a c : Int) (n : Nat) : (rangeC a c n).length = n := by unfold rangeC; rw [List.length_map, List.length_range]
theorem rangeC_get {a c : Int} {n i : Nat} {d : D} (h : (rangeC a c n)[i]? = some d) : i < n ∧ d = .int (a + (i : Nat) * c) := by
  unfold rangeC at h
  rw [List.getElem?_map] at h
  obtain ⟨j, h1, rfl⟩ := Option.map_eq_some_iff.mp h
  have hi : i < n := by
    have := (List.getElem?_eq_some_iff.mp h1).1
    rw [List.length_range] at this
    exact this
  rw [List.getElem?_range hi] at h1
  cases h1
  exact ⟨hi, rfl⟩
theorem walk_rngC {a c : Int} {n : Nat} (hn : n ≤ 1000000) : WalkD C [] [] (Itc a c n) (rangeC a c n) := by
  refine ⟨by rw [rangeC_len]; exact line_of hn, fun S2 H2 sh2 _ => ⟨by rw [rangeC_len]; exact Nat.le_refl _, fun i d hi => ?_⟩⟩
  obtain ⟨hlt, rfl⟩ := rangeC_get hi
  refine ⟨hlt, fun w H3 hy => ?_⟩
  obtain ⟨rfl, rfl⟩ := hy
  exact ⟨S2, New.refl sh2, .int _⟩
theorem sim_iR3 (h1 : SimA C A dA) : SimI C (iRng3 A) (dItA dA oRng3) := by
  intro x lx e hd ts vs σ H Q k rp h q
  refine h1 x lx e hd ts vs σ H _ _ rp h fun ys e1 ws H1 h1' hl r1 => ?_
  unfold oRng3 at h1'
  split at h1'
  · obtain ⟨S, r⟩ := id r1
    have ds := (DsAt.split hl r.tmp).1
    cases ds with
    | cons c1 ds =>
      cases ds with
      | cons c2 ds =>
        cases ds with
        | cons c3 ds =>
          cases ds
          obtain rfl := c1.int_inv
          obtain rfl := c2.int_inv
          obtain rfl := c3.int_inv
          obtain ⟨n, g, b, h1'⟩ := h1'
          exact ⟨_, _, _, n, rfl, g, q _ e1 _ _ [] [] h1' rfl r1.pop.pop.pop (walk_rngC b)⟩
  · exact h1'.elim
end
/-! ### is True, is False -/
def oIsB : D → D → (D → Prop) → Prop := fun x y k => match x, y with
  | .bl a, .bl b => k (.bl (decide (a = b)))
  | _, _ => False
def oNotB : D → D → (D → Prop) → Prop := fun x y k => match x, y with
  | .bl a, .bl b => k (.bl (!decide (a = b)))
  | _, _ => False
theorem oIsB_r {a b : Bool} {k : D → Prop} : oIsB (.bl a) (.bl b) k = k (.bl (decide (a = b))) := rfl
theorem oNotB_r {a b : Bool} {k : D → Prop} : oNotB (.bl a) (.bl b) k = k (.bl (!decide (a = b))) := rfl
theorem simr_isB {C : Ct} : SimR C (fun x y H Q => ∃ a b, x = V.bl a ∧ y = V.bl b ∧ Q (V.bl (decide (a = b))) H) oIsB := by
  intro x y v w S H Q k sh dx dy h q
  unfold oIsB at h
  split at h
  · cases dx
    cases dy
    exact ⟨_, _, rfl, rfl, q _ _ S H h (New.refl sh) (.bl _)⟩
  · exact h.elim
theorem simr_notB {C : Ct} : SimR C (fun x y H Q => ∃ a b, x = V.bl a ∧ y = V.bl b ∧ Q (V.bl (!decide (a = b))) H) oNotB := by
  intro x y v w S H Q k sh dx dy h q
  unfold oNotB at h
  split at h
  · cases dx
    cases dy
    exact ⟨_, _, rfl, rfl, q _ _ S H h (New.refl sh) (.bl _)⟩
  · exact h.elim
/-! ### xs[::-1] of a list -/
def oRevL : D → (D → Prop) → Prop := fun x k => match x with
  | .lst xs => k (.lst xs.reverse)
  | _ => False
theorem oRevL_r {xs : List D} {k : D → Prop} : oRevL (.lst xs) k = k (.lst xs.reverse) := rfl
theorem sim_revL {C : Ct} {K : PySem.W.Frag} {ta : TE} {a : DE} (hK : C.R.K = K) (h1 : SimE C ta a) : SimE C (tRevL K ta) (dUn oRevL a) := by
  subst hK
  intro x lx e hd ts vs σ H Q k rp h q
  refine h1 x lx e hd ts vs σ H _ _ rp h fun y e1 v H1 h1' r1 => ?_
  unfold oRevL at h1'
  obtain ⟨S, r2⟩ := r1
  split at h1'
  · cases r2.tmp with
    | cons c1 r'' =>
      obtain ⟨p, us, rfl, g1, g2, g3⟩ := c1.lst_inv
      refine ⟨p, us, rfl, sqL (r2.sh _ _ g1), fun r hr => ?_⟩
      have n := New.one r2.sh hr (.lst us.reverse)
      exact q _ e1 _ _ h1' ⟨_, (r2.grow n).temps (.cons (.lst upd_same (g2.rev.mono n.ss) (by rw [List.length_reverse]; exact g3)) (r''.mono n.ss))⟩
  · exact h1'.elim
end Pu

namespace Pu
open PySem PySem.Spec PyProof.Rows L2 Gd RZ
/-! ### try with named clauses -/
/-- a clause: its class, the place of its name, what its suite reads: the exception, its class, its attribute's name, its data -/
abbrev Cl := Addr × Nat × (Addr → Addr → Str → D → DS)
def wNamD (K : PySem.W.Frag) (k : DEn) : List Cl → DX
  | [] => fun _ _ _ _ => False
  | q :: r => fun c f y e => ∃ b, PySem.W.exmOne K (.ref c) (.ref q.1) = some b ∧
      (b = true → ∀ a : Addr, q.2.2 a c f y (fun _ _ _ _ => False) { nx := fun e => k.nx (wipeF e [q.2.1]), rt := k.rt, bk := fun e => k.bk (wipeF e [q.2.1]), ct := fun e => k.ct (wipeF e [q.2.1]) } { e with g := e.g.set q.2.1 (.d (.raw (.ref a))) }) ∧
      (b = false → wNamD K k r c f y e)
def dTry (K : PySem.W.Frag) (l : List Cl) (b : DS) : DS := fun _ k e => b (wNamD K k l) k e
def dXf (a c C : Addr) (g f : Str) (y : D) (de : DE) : DE := fun x e k => de x e fun z e1 => z = .raw (.ref a) ∧ c = C ∧ g = f ∧ k y e1
def dCallT (d : SpP) (a : DA) : DE := fun x e k => a (fun _ _ _ _ => False) e fun ys e1 => d ys (fun y => k y e1) fun c f y => x c f y e1
def dIfT (t : DT) (a b : DE) : DE := fun x e k => t (fun _ _ _ _ => False) e fun c e1 => if c = true then a x e1 k else b x e1 k
theorem wNamD_yes {K : PySem.W.Frag} {k : DEn} {C : Addr} {j : Nat} {h : Addr → Addr → Str → D → DS} {r : List Cl} {f : Str} {y : D} {e : Fr} (hx : PySem.W.exmOne K (.ref C) (.ref C) = some true)
    (q : ∀ a : Addr, h a C f y (fun _ _ _ _ => False) { nx := fun e => k.nx (wipeF e [j]), rt := k.rt, bk := fun e => k.bk (wipeF e [j]), ct := fun e => k.ct (wipeF e [j]) } { e with g := e.g.set j (.d (.raw (.ref a))) }) : wNamD K k ((C, j, h) :: r) C f y e :=
  ⟨_, hx, fun _ => q, fun z => nomatch z⟩
theorem wNamD_no {K : PySem.W.Frag} {k : DEn} {C c : Addr} {j : Nat} {h : Addr → Addr → Str → D → DS} {r : List Cl} {f : Str} {y : D} {e : Fr} (hx : PySem.W.exmOne K (.ref c) (.ref C) = some false) (q : wNamD K k r c f y e) : wNamD K k ((C, j, h) :: r) c f y e :=
  ⟨_, hx, fun z => (nomatch z), fun _ => q⟩
def inR (R : Root) (S : Hp) (a : Addr) (o : HO) : Root := { R with H0 := fun b => if b = a then some o else R.H0 b, S0 := S }
section
variable {R : Root} {hd : List (Addr × HO)} {e : Fr} {ts : List D} {vs : List V} {σ : L2.St} {H S : Hp}
theorem RepS.own_xd (r : RepS R hd e ts vs σ H S) {i : Nat} {p : Addr} (h : Owns e.g σ i p) {fs : List (Str × V)} : H p ≠ some (.xd fs) := by
  obtain ⟨⟨w, h1, h2⟩, h3⟩ := h
  have g := r.slots i w h1
  intro z
  cases w with
  | u => cases h2
  | d y => cases h2
  | l ys =>
    obtain ⟨p', us, g1, g2, _⟩ := g
    rw [h3] at g1
    cases g1
    rw [z] at g2
    cases g2
  | k ys =>
    obtain ⟨p', us, g1, g2, _⟩ := g
    rw [h3] at g1
    cases g1
    rw [z] at g2
    cases g2
theorem RepS.st_xd (r : RepS R hd e ts vs σ H S) {a : Addr} {fs : List (Str × V)} (ha : H a = some (.xd fs)) : R.live = true → some a ≠ R.mo := fun hl z => by
  obtain ⟨_, _, h2, _⟩ := r.st hl a z.symm
  obtain ⟨l, s, p, c, cs, a1, _⟩ := h2
  rw [a1] at ha
  cases ha
theorem RepS.inner (r : RepS R hd e ts vs σ H S) {a : Addr} {fs : List (Str × V)} (ha : H a = some (.xd fs)) : RepS (inR R S a (.xd fs)) hd e ts vs σ H S where
  keep := fun b o h1 h2 h3 => by
    have h3' : (if b = a then some (HO.xd fs) else R.H0 b) = some o := h3
    split at h3'
    · rename_i c
      cases h3'
      rw [c]
      exact ha
    · exact r.keep b o h1 h2 h3'
  s0 := Same.refl _
  old := fun b o _ _ h => h
  sh := r.sh
  len := r.len
  slots := r.slots
  tmp := r.tmp
  own := fun i p h => ⟨(r.own i p h).1, fun o ho hn => by
    have ho' : (if p = a then some (HO.xd fs) else R.H0 p) = some o := ho
    split at ho'
    · rename_i c
      exact r.own_xd h (by rw [c]; exact ha)
    · exact (r.own i p h).2 o ho' hn⟩
  inj := r.inj
  hid := fun p o h => by
    obtain ⟨h1, h2, h3, h4⟩ := r.hid p o h
    refine ⟨h1, h2, fun o' ho hn => ?_, h4⟩
    have ho' : (if p = a then some (HO.xd fs) else R.H0 p) = some o' := ho
    split at ho'
    · rename_i c
      rw [c, ha] at h1
      exact (r.hnt p o h).2 fs (Option.some.inj h1).symm
    · exact h3 o' ho' hn
  hnt := r.hnt
  st := fun hl m em => by
    have ne : m ≠ a := fun z => r.st_xd ha hl (by rw [← z]; exact em.symm)
    obtain ⟨⟨o, h0, h0'⟩, h1, h2, h3, h4⟩ := r.st hl m em
    refine ⟨⟨o, ?_, h0'⟩, h1, h2, h3, fun c hc => h4 c ?_⟩
    · show (if m = a then some (HO.xd fs) else R.H0 m) = some o
      rw [if_neg ne]
      exact h0
    · obtain ⟨l, s, p, z⟩ := hc
      have z' : (if m = a then some (HO.xd fs) else R.H0 m) = _ := z
      rw [if_neg ne] at z'
      exact ⟨l, s, p, z'⟩
  tab := r.tab
  tb := fun h => h
theorem RepS.outer (r : RepS R hd e ts vs σ H S) {a : Addr} {fs : List (Str × V)} (ha : H a = some (.xd fs)) {hd' : List (Addr × HO)} {e' : Fr} {ts' : List D} {vs' : List V} {σ' : L2.St} {H' S' : Hp} (q : RepS (inR R S a (.xd fs)) hd' e' ts' vs' σ' H' S') :
    RepS R hd' e' ts' vs' σ' H' S' where
  keep := fun b o h1 h2 h3 => by
    refine q.keep b o h1 h2 ?_
    show (if b = a then some (HO.xd fs) else R.H0 b) = some o
    split
    · rename_i c
      subst c
      rw [← ha]
      exact r.keep b o h1 h2 h3
    · exact h3
  s0 := r.s0.trans q.s0
  old := fun b o h1 h2 h3 => by
    have hb : S b = none := r.old b o h1 h2 h3
    by_cases c : b = a
    · refine q.old b (.xd fs) ?_ (fun _ ps z => nomatch z) hb
      show (if b = a then some (HO.xd fs) else R.H0 b) = some (.xd fs)
      rw [if_pos c]
    · refine q.old b o ?_ h2 hb
      show (if b = a then some (HO.xd fs) else R.H0 b) = some o
      rw [if_neg c]
      exact h1
  sh := q.sh
  len := q.len
  slots := q.slots
  tmp := q.tmp
  own := fun i p h => ⟨(q.own i p h).1, fun o ho hn => by
    have g := (q.own i p h).2
    by_cases c : p = a
    · refine g (.xd fs) ?_ (fun _ ps z => nomatch z)
      show (if p = a then some (HO.xd fs) else R.H0 p) = some (.xd fs)
      rw [if_pos c]
    · refine g o ?_ hn
      show (if p = a then some (HO.xd fs) else R.H0 p) = some o
      rw [if_neg c]
      exact ho⟩
  inj := q.inj
  hid := fun p o h => by
    obtain ⟨h1, h2, h3, h4⟩ := q.hid p o h
    refine ⟨h1, h2, fun o' ho hn => ?_, h4⟩
    by_cases c : p = a
    · refine h3 (.xd fs) ?_ (fun _ ps z => nomatch z)
      show (if p = a then some (HO.xd fs) else R.H0 p) = some (.xd fs)
      rw [if_pos c]
    · refine h3 o' ?_ hn
      show (if p = a then some (HO.xd fs) else R.H0 p) = some o'
      rw [if_neg c]
      exact ho
  hnt := q.hnt
  st := fun hl m em => by
    have ne : m ≠ a := fun z => r.st_xd ha hl (by rw [← z]; exact em.symm)
    obtain ⟨⟨o, h0, h0'⟩, h1, h2, h3, h4⟩ := q.st hl m em
    have h0'' : (if m = a then some (HO.xd fs) else R.H0 m) = some o := h0
    rw [if_neg ne] at h0''
    refine ⟨⟨o, h0'', h0'⟩, h1, h2, h3, fun c hc => h4 c ?_⟩
    obtain ⟨l, s, p, z⟩ := hc
    refine ⟨l, s, p, ?_⟩
    show (if m = a then some (HO.xd fs) else R.H0 m) = _
    rw [if_neg ne]
    exact z
  tab := q.tab
  tb := fun h => q.tb (r.tb h)
end
def XfF (C : Ct) (dd : Addr) (g : Str) (y : D) : Prop := ∃ v, C.R.H0 dd = some (.xd [(g, v)]) ∧ DAt C.R.K C.R.mo C.R.S0 y v ∧ (C.R.live = true → some dd ≠ C.R.mo)
def LinkW (R : Root) (W : WX) (hd : List (Addr × HO)) (ts : List D) (vs : List V) (x : DX) : Prop := ∀ (c : Addr) (f : Str) (y : D) (e : Fr) (σ : L2.St) (H : Hp) (a : Addr) (v : V),
  Rep R hd e (y :: ts) (v :: vs) σ H → H a = some (.xd [(f, v)]) → x c f y e → W (.ref c) (some a) σ H
section
variable (C : Ct)
def SimEW (W : WX) (t : TE) (d : DE) : Prop := ∀ (x : DX) (e : Fr) (hd : List (Addr × HO)) (ts : List D) (vs : List V) (σ : L2.St) (H : Hp) (Q : VK) (k : D → Fr → Prop), LinkW C.R W hd ts vs x → Rep C.R hd e ts vs σ H →
  d x e k → (∀ y e' v H', k y e' → Rep C.R hd e' (y :: ts) (v :: vs) σ H' → Q v H') → t σ H Q
def SimSW (W : WX) (t : TS) (d : DS) : Prop := ∀ (x : DX) (e : Fr) (hd : List (Addr × HO)) (ts : List D) (vs : List V) (σ : L2.St) (H : Hp) (D' : Ends) (k : DEn), LinkW C.R W hd ts vs x → Rep C.R hd e ts vs σ H → Link C hd ts vs D' k →
  d x k e → t D' σ H
inductive HsOk : List Cl3 → List Cl → Prop
  | nil : HsOk [] []
  | cons {cA : Addr} {j : Nat} {rd : Addr → Value → Option Addr → TS} {dh : Addr → Addr → Str → D → DS} {l : List Cl3} {ld : List Cl}
      (h : ∀ (H0 S0 : Hp) (a c dd : Addr) (g : Str) (y : D), XfF ⟨{ C.R with H0 := H0, S0 := S0 }, fun _ _ _ => False⟩ dd g y → SimS ⟨{ C.R with H0 := H0, S0 := S0 }, fun _ _ _ => False⟩ (rd a (.ref c) (some dd)) (dh a c g y))
      (r : HsOk l ld) : HsOk ((.ref cA, j, rd) :: l) ((cA, j, dh) :: ld)
end
section
variable {C : Ct} {K : PySem.W.Frag} {te : TE} {de : DE} {W : WX} {A : TA} {dA : DA} {ta tb : TE} {a b : DE} {tt : TT} {dt : DT}
theorem linkF {E : XK} {R : Root} : LinkX ⟨R, E⟩ (fun _ _ _ _ => False) := fun _ _ _ _ _ _ _ _ _ _ _ _ _ z => z.elim
theorem sim_xf {ex c dd Cx : Addr} {g f : Str} {y : D} (hf : XfF C dd g y) (h1 : SimE C te de) : SimE C (tXf ex (.ref c) (some dd) Cx f te) (dXf ex c Cx g f y de) := by
  intro x lx e hd ts vs σ H Q k rp h q
  refine h1 x lx e hd ts vs σ H _ _ rp h fun z e1 v1 H1 hz r1 => ?_
  obtain ⟨rfl, rfl, rfl, hk⟩ := hz
  obtain ⟨v, f1, f2, f3⟩ := hf
  obtain ⟨S, r⟩ := r1
  cases r.tmp with
  | cons c1 r'' =>
    cases c1
    exact ⟨rfl, rfl, dd, _, v, rfl, r.keep dd _ f3 (fun _ ps z => nomatch z) f1, by simp [List.lookup], q _ e1 v H1 hk ⟨S, r.temps (.cons (f2.mono r.s0) r'')⟩⟩
theorem simw_call {d : SpP} (hK : C.R.K = K) (h1 : ∀ E, SimA ⟨C.R, E⟩ A dA) : SimEW C W (tCallS (spPu K d) (fun σ cls dd H => W cls dd σ H) A) (dCallT d dA) := by
  subst hK
  intro x e hd ts vs σ H Q k lw rp h q
  refine h1 (fun _ _ _ => False) (fun _ _ _ _ => False) linkF e hd ts vs σ H _ _ rp h fun ys e1 ws H1 h1' hl r1 => ?_
  obtain ⟨S, r1⟩ := r1
  obtain ⟨t1, t2⟩ := DsAt.split hl r1.tmp
  exact ⟨S, _, ys, _, _, r1.sh, t1, h1', fun y v H' S' ky n dv => q _ _ _ _ ky ⟨S', (r1.grow n).temps (.cons dv (t2.mono n.ss))⟩,
    fun c f y a v H' S' ky n dv ha => lw c f y e1 σ H' a v ⟨S', (r1.grow n).temps (.cons dv (t2.mono n.ss))⟩ ha ky⟩
theorem simw_if (h0 : ∀ E, SimT ⟨C.R, E⟩ tt dt) (h1 : SimEW C W ta a) (h2 : SimEW C W tb b) : SimEW C W (tIf tt ta tb) (dIfT dt a b) := by
  intro x e hd ts vs σ H Q k lw rp h q
  refine h0 (fun _ _ _ => False) (fun _ _ _ _ => False) linkF e hd ts vs σ H _ _ rp h fun c e1 H1 h1' r1 => ?_
  cases c with
  | true => rw [if_pos rfl] at h1'; exact iteT (h1 x e1 hd ts vs σ H1 _ _ lw r1 h1' q)
  | false => rw [if_neg Bool.false_ne_true] at h1'; exact iteF (h2 x e1 hd ts vs σ H1 _ _ lw r1 h1' q)
theorem simw_asg {ws : List Nat} {g : TG} {dg : DG} (h1 : SimEW C W ta a) (h2 : SimG C ws g dg) : SimSW C W (tAsg ta g) (dAsg a dg) := fun x e hd ts vs σ H D' k lw rp L h =>
  h1 x e hd ts vs σ H _ _ lw rp h fun y e1 v H1 z r1 => h2 y v e1 hd ts vs σ H1 _ _ r1 z fun e2 σ2 H2 z2 r2 _ => L.nx _ _ _ r2 z2
theorem simw_ret (h1 : SimEW C W ta a) : SimSW C W (tRet ta) (dRet a) := fun x e hd ts vs σ H D' k lw rp L h => h1 x e hd ts vs σ H _ _ lw rp h fun y e1 v H1 z r1 => L.rt _ _ _ _ _ r1 z
theorem simw_drop (h1 : SimEW C W ta a) : SimSW C W (tDrop ta) (dDrop a) := fun x e hd ts vs σ H D' k lw rp L h => h1 x e hd ts vs σ H _ _ lw rp h fun y e1 v H1 z r1 => L.nx _ _ _ r1.pop z
theorem sim_try {l : List Cl3} {ld : List Cl} {rb : WX → TS} {db : DS} (hK : C.R.K = K) (hb : ∀ W, SimSW C W (rb W) db) (hs : HsOk C l ld) :
    SimS C (fun D σ H => rb (wNam K (fun _ _ _ _ => False) D l) D σ H) (dTry K ld db) := by
  subst hK
  intro x lx e hd ts vs σ H D' k rp L h
  refine hb _ _ e hd ts vs σ H D' k ?_ rp L h
  have all : ∀ {l : List Cl3} {ld : List Cl}, HsOk C l ld → LinkW C.R (wNam C.R.K (fun _ _ _ _ => False) D' l) hd ts vs (wNamD C.R.K k ld) := by
    intro l ld hs
    induction hs with
    | nil => exact fun c f y e σ H a v rp ha hw => hw.elim
    | @cons cA j rd dh l ld hh r ih =>
      intro c f y e σ H a v rp ha hw
      obtain ⟨b, e1, h1, h2⟩ := hw
      refine ⟨b, e1, fun hb ex hex => ?_, fun hb => ih c f y e σ H a v rp ha (h2 hb)⟩
      obtain ⟨S, rr⟩ := rp
      have r1 := rr.inner ha
      cases rr.tmp with
      | cons dv tv =>
        have r2 := (r1.temps tv).set (y := .raw (.ref ex)) (v := .ref ex) (.raw _) j
        have back : ∀ {e2 : Fr} {ts2 : List D} {vs2 : List V} {σ2 : L2.St} {H2 : Hp}, Rep (inR C.R S a (.xd [(f, v)])) hd e2 ts2 vs2 σ2 H2 → Rep C.R hd e2 ts2 vs2 σ2 H2 := fun ⟨S2, q⟩ => ⟨S2, rr.outer ha q⟩
        have gone : ∀ {e2 : Fr} {ts2 : List D} {vs2 : List V} {σ2 : L2.St} {H2 : Hp}, Rep (inR C.R S a (.xd [(f, v)])) hd e2 ts2 vs2 σ2 H2 → Rep C.R hd (wipeF e2 [j]) ts2 vs2 (σ2.set j none) H2 := fun q => (back q).forget (List.length_set ..) fun i hi => by
          rw [List.getElem?_set, if_neg (fun z => hi (by rw [z]; exact List.mem_singleton.mpr rfl))]
        refine hh _ S ex c a f y ⟨v, if_pos rfl, dv, rr.st_xd ha⟩ (fun _ _ _ _ => False) linkF _ hd ts vs _ H _ _ ⟨S, r2⟩ ?_ (h1 hb ex)
        exact ⟨fun e2 σ2 H2 q z => L.nx _ _ _ (gone q) z, fun y2 v2 e2 σ2 H2 q z => L.rt _ _ _ _ _ (back q) z, fun e2 σ2 H2 q z => L.bk _ _ _ (gone q) z, fun e2 σ2 H2 q z => L.ct _ _ _ (gone q) z⟩
  exact all hs
end
end Pu
namespace Gd
open PySem PySem.Spec PyProof.Rows L2
def tTry (K : PySem.W.Frag) (rb : WX → TS) (l : List Cl3) : TS := fun D σ H => rb (wNam K (fun _ _ _ _ => False) D l) D σ H
theorem ps_tryD {X : Cx} {body : List Stmt} {hd : ExceptHandler} {hs : List ExceptHandler} {l : List Cl3} {pos : Pos} {rb : WX → TS} (h1 : X.stack = X.env :: X.outer) (h2 : X.env.frame = some X.env.locals) (nd : X.N.Nodup)
    (hb : ∀ (W : WX) (pn : List (Addr × Obj)) (xe : Value → Shared → Prop), Takes (X.tr pn xe) W → PassesOwn (model X.prog X.w) X.A X.env xe → PSs (X.tr pn xe) body (rb W))
    (ho : NamOk X (hd :: hs) l) : PS X (.Try body (hd :: hs) [] [] pos) (tTry X.K rb l) := ps_tryN h1 h2 nd LamX.takes0 hb ho
end Gd
namespace Pu
open PySem PySem.Spec PyProof.Rows L2 Gd RZ
theorem sim_tryD {C : Ct} {K : PySem.W.Frag} {l : List Cl3} {ld : List Cl} {rb : WX → TS} {db : DS} (hK : C.R.K = K) (hb : ∀ W, SimSW C W (rb W) db) (hs : HsOk C l ld) : SimS C (tTry K rb l) (dTry K ld db) := sim_try hK hb hs
def dPureT (d : DE) : DE := fun x e k => d (fun _ _ _ _ => False) e k
theorem simw_pure {C : Ct} {W : WX} {t : TE} {d : DE} (h : ∀ E, SimE ⟨C.R, E⟩ t d) : SimEW C W t (dPureT d) := fun x e hd ts vs σ H Q k lw rp hd' q => h (fun _ _ _ => False) (fun _ _ _ _ => False) linkF e hd ts vs σ H Q k rp hd' q
end Pu

namespace Gd
open PySem PySem.Spec PyProof.Rows L2
def rDictP (K : PySem.W.Frag) : List V → Hp → VK → Prop := fun xs H Q => ∃ (a : Addr) (ps : List Addr) (kvs : List (Key × V)), xs = [.ref a] ∧ SqL K H a (ps.map V.ref) ∧ Paired (fun p kv => SqT K H p [kV kv.1, kv.2]) ps kvs ∧ ∀ p, H p = none → Q (.ref p) (upd H p (.dK (mergeK [] kvs)))
theorem call_dictPK {X : Cx} (K : PySem.W.Frag) (h : X.K = K) (hc : X.calm = true) : CallR X (.type "dict") (rDictP K) := by
  subst h
  exact call_dictP hc
/-- max of three numbers -/
def max3 (i j k : Int) : Int := if k > (if j > i then j else i) then k else (if j > i then j else i)
theorem nu3 (i j k : Int) : nuMax3 (.int i) (.int j) (.int k) = some (.int (max3 i j k)) := by
  unfold nuMax3 nuMax2 max3
  have lt : ∀ a b : Int, nuLt (.int a) (.int b) = some (decide (a < b)) := fun a b => rfl
  rw [lt]
  by_cases c : i < j
  · rw [decide_eq_true c, if_pos (show j > i from c)]
    simp only [Option.map_some, Option.bind_some, if_true]
    rw [lt]
    by_cases d : j < k
    · rw [decide_eq_true d, if_pos (show k > j from d)]; rfl
    · rw [decide_eq_false d, if_neg (show ¬ k > j from d)]; rfl
  · rw [decide_eq_false c, if_neg (show ¬ j > i from c)]
    simp only [Option.map_some, Option.bind_some, Bool.false_eq_true, if_false]
    rw [lt]
    by_cases d : i < k
    · rw [decide_eq_true d, if_pos (show k > i from d)]; rfl
    · rw [decide_eq_false d, if_neg (show ¬ k > i from d)]; rfl
def rMax3 : List V → Hp → VK → Prop := fun xs H Q => ∃ i j k, xs = [.int i, .int j, .int k] ∧ Q (.int (max3 i j k)) H
theorem call_max3 {X : Cx} (hc : X.calm = true) : CallR X (.builtin "max") rMax3 := fun pins s σ H xs us Q I v h => call_max3Nu hc pins s σ H xs us Q I v (by
  obtain ⟨i, j, k, rfl, q⟩ := h
  exact ⟨_, _, _, _, rfl, nu3 i j k, q⟩)
/-- max of a tuple of numbers -/
theorem max_rawT {prog : Program} {w : World} {A : Around} {E : Value → Shared → Prop} {s : Shared} {l : Addr} {its : List Value} {ns : List Int} {Q : Value → Shared → Prop} (hh : A.handled = none) (ht : s.heap.IsTuple l its.toArray) (hi : IntsAre its ns) (hne : 0 < ns.length)
    (h : ∀ (h' : Heap) (tk : Nat) (M : Int) (t' : Tok), (∀ b o, s.heap.get? b = some o → h'.get? b = some o) → M ∈ ns → (∀ a ∈ ns, a ≤ M) → Q (.int M t') { s with heap := h', toks := tk }) :
    wpAny (model prog w) A (call (.builtin "max") [.ref l]) Q E s := by
  obtain ⟨xs, e⟩ := AllInts.items (IntsAre.allInts hi)
  have hn : numsOf (intItems xs).toList = ns := by rw [← e]; exact IntsAre.numsOf hi
  rw [nums_intItems] at hn
  subst hn
  rw [e] at ht
  have hsz : 0 < xs.size := by simpa using hne
  have hl : l ≠ s.heap.objs.size := by
    obtain ⟨o, ho, _⟩ := id ht
    exact Nat.ne_of_lt (Heap.lt_size ho)
  refine call_max_walk (W.iter_tupleW (A := A.in1) hh ht fun s₂ es W st hfp h1 h2 => ?_)
  subst es
  have sz : (intItems xs).size = xs.size := Array.size_map ..
  refine ⟨s.heap.objs.size, [s.heap.objs.size, l], [s.heap.objs.size], (intItems xs).size, (fun i v => (intItems xs)[i]? = some v), (fun i h => h.IsTupleIter s.heap.objs.size l i ∧ h.IsTuple l (intItems xs)), (fun i j => decide (numAt xs i > numAt xs j)), rfl,
    Walks.tuple (A := A.in1) hh s.heap.objs.size l hl (intItems xs), st, hfp, by rw [sz]; exact hsz, CmpOf.ints_gt (numAt xs) (fun _ _ => intItems_at), fun v h' tk hP hk => ?_⟩
  rw [sz] at hP
  obtain ⟨t, rfl⟩ := intItems_at hP
  obtain ⟨m1, m2⟩ := argBest_gt (numAt xs) (xs.size - 1)
  refine h h' tk _ t (fun b o q => hk b o (h1 b o q) (h2 b o q)) ?_ ?_
  · rw [numAt_eq]
    exact PySem.getD_mem (by rw [List.length_map, Array.length_toList]; omega)
  · intro a ha
    obtain ⟨j, hj, rfl⟩ := mem_getD ha
    rw [← numAt_eq]
    rw [List.length_map, Array.length_toList] at hj
    exact m2 j (by omega)
def rMaxT (K : PySem.W.Frag) : List V → Hp → VK → Prop := fun vs H Q => ∃ (a : Addr) (ns : List Int), vs = [.ref a] ∧ SqT K H a (ns.map V.int) ∧ 0 < ns.length ∧ ∀ m, m ∈ ns → (∀ y, y ∈ ns → y ≤ m) → Q (.int m) H
theorem cr_maxT {X : Cx} (K : PySem.W.Frag) (hK : X.K = K) (hc : X.calm = true) : CallR X (.builtin "max") (rMaxT K) := by
  subst hK
  intro pins s σ H vs us Q I r h
  obtain ⟨a, ns, rfl, hs, hne, q⟩ := h
  obtain ⟨its, rv, p1, hz⟩ := I.tuple hs
  rw [Vals.ref1 r]
  exact max_rawT (I.ok.hd hc) p1 (Vals.ints rv) hne fun h' tk m t' hk h1 h2 => ⟨.int m, H, I.kept hk, ⟨t', rfl⟩, q m h1 h2⟩
theorem paired_of {α β : Type} {F : α → β → Prop} : ∀ {l1 : List α} {l2 : List β}, l1.length = l2.length → (∀ (j : Nat) (a : α) (b : β), l1[j]? = some a → l2[j]? = some b → F a b) → Paired F l1 l2
  | [], [], _, _ => .nil
  | [], _ :: _, h, _ => by cases h
  | _ :: _, [], h, _ => by cases h
  | a :: r, b :: t, h, f => .cons (f 0 a b rfl rfl) (paired_of (Nat.succ.inj h) fun j x y e1 e2 => f (j + 1) x y (by simpa using e1) (by simpa using e2))
end Gd
namespace Pu
open PySem PySem.Spec PyProof.Rows L2 Gd RZ
section
variable {C : Ct} {K : PySem.W.Frag} {A : TA} {dA : DA}
/-- dict(list(zip(a, b))) -/
theorem simk_dictLZ (hK : C.R.K = K) (h1 : SimA C A dA) : SimKF C (tCB (rDictP K) (tCons (tListZip K A) tNil)) (kZip dA) := by
  subst hK
  intro x lx e hd ts vs σ H Q k rp h q
  refine h1 x lx e hd ts vs σ H _ _ rp h fun ys e1 ws H1 h1' hl r1 => ?_
  obtain ⟨S, r1⟩ := r1
  obtain ⟨t1, t2⟩ := DsAt.split hl r1.tmp
  have fin : ∀ {p p' : Addr} {xs zs : List D} {us us' : List V}, SqA C.R.K H1 p us → SqA C.R.K H1 p' us' → DsAt C.R.K C.R.mo S xs us → DsAt C.R.K C.R.mo S zs us' → zs.length ≤ sizeLine → (xs.length = zs.length ∧ ∃ ks, keysD xs = some ks ∧ k (mergeD [] (ks.zip zs)) e1) →
      ∃ (a b : Addr) (xs ys : List V), [V.ref p, V.ref p'] = [.ref a, .ref b] ∧ SqA C.R.K H1 a xs ∧ SqA C.R.K H1 b ys ∧ ∀ (l : Addr) (ps : List Addr) (H2 : Hp), ZipNew H1 l ps xs ys H2 → rDictP C.R.K [.ref l] H2 Q := by
    rintro p p' xs zs us us' s1 s2 d1 d2 hz ⟨hl, ks, hk, h⟩
    refine ⟨p, p', us, us', rfl, s1, s2, fun l ps H2 Z => ?_⟩
    have kl : ks.length = us'.length := by rw [keys_len hk, hl, d2.length]
    have ul : us.length = us'.length := by rw [← d1.length, hl, d2.length]
    have ku : us = ks.map kV := keys_at hk d1
    have r2 : RepS C.R hd e1 ts vs σ H2 S := (r1.temps t2).grow ⟨Z.same, Same.refl _, r1.sh.trans Z.same, fun _ _ q => q, fun h => h⟩
    refine ⟨l, ps, ks.zip us', rfl, sqL Z.at_l, paired_of (by rw [Z.len, List.length_zip, ul, kl]) fun j p kv e1 e2 => ?_, fun r hr => ?_⟩
    · rw [List.getElem?_zip_eq_some] at e2
      obtain ⟨g1, g2⟩ := e2
      exact sqT (Z.at_p j p (kV kv.1) kv.2 e1 (by rw [ku, List.getElem?_map, g1]; rfl) g2)
    · refine q _ e1 r _ _ S h ?_ (merge_at d2 .nil) (new_hid r2 hr) (r2.hide hr _)
      have := mergeD_len (ks.zip zs) []
      rw [List.length_zip] at this
      have h0 : ([] : List (Key × D)).length = 0 := rfl
      omega
  unfold kZip at h
  show ∃ (a b : Addr) (xs ys : List V), _
  split at h1'
  · obtain ⟨v, w, rfl, c1, c2⟩ := t1.two
    obtain ⟨p, us, rfl, g1, g2, g3⟩ := c1.lst_inv
    obtain ⟨p', us', rfl, f1, f2, f3⟩ := c2.lst_inv
    exact fin (.inl (sqL (r1.sh _ _ g1))) (.inl (sqL (r1.sh _ _ f1))) g2 f2 f3 h1'
  · obtain ⟨v, w, rfl, c1, c2⟩ := t1.two
    obtain ⟨p, us, rfl, g1, g2, g3⟩ := c1.lst_inv
    obtain ⟨p', us', rfl, f1, f2, f3⟩ := c2.tup_inv
    exact fin (.inl (sqL (r1.sh _ _ g1))) (.inr (r1.sh.seqT f1)) g2 f2 f3 h1'
  · obtain ⟨v, w, rfl, c1, c2⟩ := t1.two
    obtain ⟨p, us, rfl, g1, g2, g3⟩ := c1.tup_inv
    obtain ⟨p', us', rfl, f1, f2, f3⟩ := c2.lst_inv
    exact fin (.inr (r1.sh.seqT g1)) (.inl (sqL (r1.sh _ _ f1))) g2 f2 f3 h1'
  · obtain ⟨v, w, rfl, c1, c2⟩ := t1.two
    obtain ⟨p, us, rfl, g1, g2, g3⟩ := c1.tup_inv
    obtain ⟨p', us', rfl, f1, f2, f3⟩ := c2.tup_inv
    exact fin (.inr (r1.sh.seqT g1)) (.inr (r1.sh.seqT f1)) g2 f2 f3 h1'
  · exact h1'.elim
def o3 (f : Int → Int → Int → Int) : List D → (D → Prop) → Prop := fun xs k => match xs with
  | [.int i, .int j, .int l] => k (.int (f i j l))
  | _ => False
theorem o3_r {f : Int → Int → Int → Int} {i j l : Int} {k : D → Prop} : o3 f [.int i, .int j, .int l] k = k (.int (f i j l)) := rfl
theorem simb_max3 : SimB C rMax3 (o3 max3) := by
  intro xs vs S H Q k sh ds h q
  unfold o3 at h
  split at h
  · cases ds with
    | cons a ds =>
      cases ds with
      | cons b ds =>
        cases ds with
        | cons c ds =>
          cases ds
          obtain rfl := a.int_inv
          obtain rfl := b.int_inv
          obtain rfl := c.int_inv
          exact ⟨_, _, _, rfl, q _ _ S H h (New.refl sh) (.int _)⟩
  · exact h.elim
def oMaxT : List D → (D → Prop) → Prop := fun xs k => match xs with
  | [.tup ys] => ∃ ns, intsD ys = some ns ∧ 0 < ns.length ∧ ∀ m, m ∈ ns → (∀ y, y ∈ ns → y ≤ m) → k (.int m)
  | _ => False
theorem oMaxT_r {ys : List D} {k : D → Prop} : oMaxT [.tup ys] k = ∃ ns, intsD ys = some ns ∧ 0 < ns.length ∧ ∀ m, m ∈ ns → (∀ y, y ∈ ns → y ≤ m) → k (.int m) := rfl
theorem simb_maxT (hK : C.R.K = K) : SimB C (rMaxT K) oMaxT := by
  subst hK
  intro xs us S H Q k sh ds h q
  unfold oMaxT at h
  split at h
  · obtain ⟨v, rfl, c⟩ := DsAt.one (v := .non) ds
    obtain ⟨p, us, rfl, g1, g2, g3⟩ := c.tup_inv
    obtain ⟨ns, e, h0, h1⟩ := h
    exact ⟨p, ns, rfl, by rw [← ints_at e g2]; exact sh.seqT g1, h0, fun m m1 m2 => q _ _ S H (h1 m m1 m2) (New.refl sh) (.int _)⟩
  · exact h.elim
end
end Pu

/-! # sorted of a list of numbers, of the set of a list of numbers -/
namespace Gd
open PySem PySem.Spec PyProof.Rows L2
theorem cr_sortK {X : Cx} (K : PySem.W.Frag) (h : X.K = K) : CallR X (.builtin "sorted") (rSortedI K) := by
  subst h
  exact cr_sortedI
/-- one of two readings of what is walked over -/
def iOr (t1 t2 : TI) : TI := fun σ H R => t1 σ H R ∨ t2 σ H R
theorem pi_or {X : Cx} {tg e : Expr} {t1 t2 : TI} (h1 : PI X tg e t1) (h2 : PI X tg e t2) : PI X tg e (iOr t1 t2) :=
  ⟨fun pins s σ H R I h => h.elim (h1.run pins s σ H R I) (h2.run pins s σ H R I)⟩
end Gd
namespace Pu
open PySem PySem.Spec PyProof.Rows L2 Gd RZ
section
variable {C : Ct} {K : PySem.W.Frag} {ta : TE} {a : DE} {mo : Option Addr} {S : Hp}
/-- sorted(xs) of a list of numbers -/
def oSortI : List D → (List D → Prop) → Prop := fun xs k => match xs with
  | [.lst ys] => ∃ ns, intsD ys = some ns ∧ ∀ out : List Int, out.Perm ns → out.Pairwise (· ≤ ·) → k (out.map .int)
  | _ => False
theorem oSortI_r {ys : List D} {k : List D → Prop} : oSortI [.lst ys] k = ∃ ns, intsD ys = some ns ∧ ∀ out : List Int, out.Perm ns → out.Pairwise (· ≤ ·) → k (out.map .int) := rfl
/-- sorted(set(xs)) of a list of numbers -/
def fSortSet (a : DE) : DF := fun x e k => a x e fun y e1 => match y with
  | .lst ys => ∃ ns, intsD ys = some ns ∧ ns.length < 64 ∧ ∀ out : List Int, out.Pairwise (· < ·) → (∀ n : Int, n ∈ out ↔ n ∈ ns) → out.length ≤ ns.length → k (out.map .int) e1
  | _ => False
theorem ints_dsP : ∀ ns : List Int, DsAt K mo S (ns.map D.int) (ns.map V.int)
  | [] => .nil
  | n :: r => .cons (.int n) (ints_dsP r)
theorem simbf_sortI (hK : C.R.K = K) : SimBF C (rSortedI K) oSortI := by
  subst hK
  intro xs us S H Q k sh ds h q
  unfold oSortI at h
  split at h
  · obtain ⟨v, rfl, d⟩ := DsAt.one (v := .non) ds
    obtain ⟨p, vs, rfl, h1, h2, h3⟩ := d.lst_inv
    obtain ⟨ns, e, h⟩ := h
    refine ⟨p, ns, rfl, by rw [← ints_at e h2]; exact sqL (sh _ _ h1), fun out r p1 p2 hr => q _ _ r (h out p1 p2) ?_ (ints_dsP out) hr⟩
    have e2 := congrArg List.length (ints_at e h2)
    rw [List.length_map, p1.length_eq]
    rw [List.length_map] at e2
    rw [← e2, ← h2.length]
    exact h3
  · exact h.elim
theorem simf_sortSet (hK : C.R.K = K) (h1 : SimE C ta a) : SimF C (tSortSet K ta) (fSortSet a) := by
  subst hK
  intro x lx e hd ts vs σ H Q k rp h q
  refine h1 x lx e hd ts vs σ H _ _ rp h fun y e1 v H1 h1' r1 => ?_
  obtain ⟨S, r2⟩ := r1
  split at h1'
  · cases r2.tmp with
    | cons c1 r'' =>
      obtain ⟨p, us, rfl, g1, g2, g3⟩ := c1.lst_inv
      obtain ⟨ns, e, k1, k2⟩ := h1'
      refine ⟨p, ns, rfl, by rw [← ints_at e g2]; exact sqL (r2.sh _ _ g1), k1, fun out r p1 p2 p3 hr => ?_⟩
      refine q _ e1 r _ _ S (k2 out p1 p2 p3) ?_ (ints_dsP out) (new_hid r2 hr) ((r2.temps r'').hide hr _)
      rw [List.length_map, sizeLine_eq]
      omega
  · exact h1'.elim
/-- zip of a name that holds a list or a tuple, and a tuple -/
def isL : Option Slo → Bool
  | some (.d (.lst _)) => true
  | some (.l _) => true
  | _ => false
theorem isL_d {xs : List D} : isL (some (.d (.lst xs))) = true := rfl
theorem isL_l {xs : List D} : isL (some (.l xs)) = true := rfl
theorem isL_t {xs : List D} : isL (some (.d (.tup xs))) = false := rfl
def dOrI (i : Nat) (a b : DI) : DI := fun x e k => if isL e.g[i]? = true then a x e k else b x e k
theorem sim_iZX {i : Nat} {B : TA} {a b : DI} (h1 : SimI C (iZipM K (tCons (tVar i) B)) a) (h2 : SimI C (iZipA K (tCons (tVar i) B)) b) : SimI C (iOr (iZipM K (tCons (tVar i) B)) (iZipA K (tCons (tVar i) B))) (dOrI i a b) := by
  intro x lx e hd ts vs σ H Q k rp h q
  unfold dOrI at h
  split at h
  · exact .inl (h1 x lx e hd ts vs σ H Q k rp h q)
  · exact .inr (h2 x lx e hd ts vs σ H Q k rp h q)
end
end Pu

/-! # {d[x]: True for x in d if 0 < d[x] < whole} over data -/
namespace Pu
open PySem PySem.Spec PyProof.Rows L2 Gd RZ
def insD (W : Int) (ns : List Int) : List (Key × D) := mergeD [] ((ns.filter fun n => decide (0 < n) && decide (n < W)).map fun n => ((Sum.inl n : Key), D.bl true))
def kInside (i j l : Nat) : DKF := fun _ e k => match e.g[j]?, e.g[l]? with
  | some (.d (.dic kvs)), some (.d (.int W)) => i < e.g.length ∧ ∃ ns : List Int, kvs.map Prod.snd = ns.map D.int ∧ (kvs.map Prod.fst).Nodup ∧ kvs.length < 1000 ∧ k (insD W ns) e
  | _, _ => False
section
variable {C : Ct} {K : PySem.W.Frag} {mo : Option Addr} {S : Hp}
theorem kv_intsP : ∀ {kvs : List (Key × D)} {kv' : List (Key × V)} {ns : List Int}, KvAt K mo S kvs kv' → kvs.map Prod.snd = ns.map D.int → kv'.map Prod.snd = ns.map V.int ∧ kv'.map Prod.fst = kvs.map Prod.fst
  | [], _, [], .nil, _ => ⟨rfl, rfl⟩
  | [], _, _ :: _, _, e => by cases e
  | (key, x) :: r, _, [], _, e => by cases e
  | (key, x) :: r, _, n :: ns, .cons (v := v) a b, e => by
    rw [List.map_cons, List.map_cons] at e
    injection e with e1 e2
    obtain ⟨h1, h2⟩ := kv_intsP b e2
    have e1' : x = D.int n := e1
    subst e1'
    obtain rfl := a.int_inv
    exact ⟨by rw [List.map_cons, h1]; rfl, by rw [List.map_cons, h2]; rfl⟩
theorem val_at : ∀ {kvs : List (Key × V)}, (kvs.map Prod.fst).Nodup → ∀ (n : Nat) (kv : Key × V), kvs[n]? = some kv → valV kvs kv.1 = some kv.2
  | [], _, n, kv, e => by simp at e
  | p :: r, nd, 0, kv, e => by
    have e' : p = kv := by simpa using e
    subst e'
    exact valV_pos rfl
  | p :: r, nd, n + 1, kv, e => by
    rw [List.map_cons, List.nodup_cons] at nd
    have e' : r[n]? = some kv := by simpa using e
    rw [valV_neg fun z => nd.1 (by rw [z]; exact List.mem_map_of_mem (List.mem_of_getElem? e'))]
    exact val_at nd.2 n kv e'
theorem ins_at {W : Int} {ns : List Int} : KvAt K mo S (insD W ns) (insK W ns) := by
  unfold insD insK
  generalize ns.filter (fun n => decide (0 < n) && decide (n < W)) = l
  have : ∀ (l : List Int) (acc : List (Key × D)) (acc' : List (Key × V)), KvAt K mo S acc acc' → KvAt K mo S (mergeD acc (l.map fun n => ((Sum.inl n : Key), D.bl true))) (mergeK acc' (l.map fun n => ((Sum.inl n : Key), V.bl true))) := by
    intro l
    induction l with
    | nil => intro acc acc' h; exact h
    | cons n r ih =>
      intro acc acc' h
      exact ih _ _ (kv_put h (Sum.inl n) (.bl true))
  exact this l [] [] .nil
theorem simk_inside {i j l : Nat} (h1 : i ≠ j) (h2 : i ≠ l) : SimKF C (tInside i j l) (kInside i j l) := by
  intro x lx e hd ts vs σ H Q k rp h q
  unfold kInside at h
  split at h
  · rename_i kvs W e1 e2
    obtain ⟨S, r⟩ := rp
    obtain ⟨hi, ns, h3, h4, h5, hk⟩ := h
    obtain ⟨v, f1, d1⟩ := r.slots j _ e1
    obtain ⟨u, f2, d2⟩ := r.slots l _ e2
    obtain rfl := d2.int_inv
    cases d1 with
    | dic g1 g2 g3 =>
      rename_i p kv'
      obtain ⟨m1, m2⟩ := kv_intsP g2 h3
      refine ⟨p, kv', ns, W, h1, h2, by rw [r.len]; exact hi, f1, f2, r.sh _ _ g1, m1, val_at (by rw [m2]; exact h4), by rw [← g2.length]; exact h5, fun D hD => ?_⟩
      refine q _ e D _ _ S hk ?_ ins_at (new_hid r hD) (r.hide hD _)
      have e3 := ins_at (K := C.R.K) (mo := C.R.mo) (S := S) (W := W) (ns := ns)
      have l1 := insK_len (W := W) (ns := ns)
      have l2 : ns.length = kvs.length := by
        have := congrArg List.length h3
        rw [List.length_map, List.length_map] at this
        exact this.symm
      rw [e3.length, sizeLine_eq]
      omega
  · exact h.elim
/-- list(range(n)) -/
def fListRg (a : DE) : DF := fun x e k => a x e fun y e1 => isInt (fun n => -1000000 ≤ n ∧ n ≤ 1000000 ∧ k (rangeD 0 n.toNat) e1) y
theorem rg_at (lo : Int) : ∀ l : List Nat, DsAt K mo S (l.map fun i => D.int (lo + (i : Nat))) (l.map fun i => V.int (lo + (i : Nat)))
  | [] => .nil
  | i :: r => .cons (.int _) (rg_at lo r)
theorem simf_listRg {ta : TE} {a : DE} (h1 : SimE C ta a) : SimF C (tLstRg (tRg1 ta)) (fListRg a) := by
  intro x lx e hd ts vs σ H Q k rp h q
  refine h1 x lx e hd ts vs σ H _ _ rp h fun y e1 v H1 h1' r1 => ?_
  obtain ⟨S, r2⟩ := r1
  cases y with
  | int n =>
    obtain ⟨b1, b2, hk⟩ := h1'
    cases r2.tmp with
    | cons c1 r'' =>
      obtain rfl := c1.int_inv
      refine ⟨n, rfl, ⟨by omega, by omega, by omega, by omega, by omega⟩, fun r hr => ?_⟩
      have at0 := rg_at (K := C.R.K) (mo := C.R.mo) (S := S) 0 (List.range n.toNat)
      refine q _ e1 r _ _ S hk ?_ ?_ (new_hid r2 hr) ((r2.temps r'').hide hr _)
      · rw [rangeD_len, sizeLine_eq]
        omega
      · have e : rgV 0 n = (List.range n.toNat).map fun i => V.int (0 + (i : Nat)) := by
          unfold rgV
          rw [Int.sub_zero]
        rw [e]
        exact at0
  | _ => exact h1'.elim
end
end Pu

/-! # xs.index(n), xs a list of numbers -/
namespace Gd
open PySem PySem.Spec PyProof.Rows L2
theorem mt_indexK {X : Cx} (K : PySem.W.Frag) (h : X.K = K := by rfl) : MtR X "list.index" (rIndex K) := by
  subst h
  exact mt_index
/-- pe_bm within a comprehension: the written part is named -/
theorem pe_bmKx {X : Cx} (K : PySem.W.Frag) {o e : Expr} {es : List Expr} {to : TE} {t : TA} {name : Str} {apos cpos : Pos} {T id : String} {r : V → List V → Hp → VK → Prop} (pa : PlainAttrs T) (slot : Slot T name id)
    (hty : typeOf (.builtin id) = pure (.type "method_descriptor")) (hm : MtR X id r) (ho : PE X o to) (ha : PA X (e :: es) t) (hK : X.K = K := by rfl)
    (h1 : attributeBase o name X.env (eval o X.env) = eval o X.env := by rfl)
    (h2 : ((backTo cpos (starEach (e :: es) X.env)).all (fun x => !x.1) && (backToKw cpos (keywordEach [] X.env)).all (fun x => x.1.isSome) &&
      decide ((e :: es).length + ([] : List Keyword).length + (if ([] : List Keyword).isEmpty then 0 else 1) < 30)) = true := by rfl)
    (h3 : (apos.endLine == cpos.line) = true := by rfl) (h4 : starEach (e :: es) X.env = (false, eval e X.env) :: starEach es X.env := by rfl) (h5 : (backTo cpos (starEach es X.env)).any (·.1) = false := by rfl) :
    PE X (.Call (.Attribute o name apos) (e :: es) [] cpos) (tBM K T r to t) := by
  subst hK
  exact pe_bm pa slot hty hm ho ha h1 h2 h3 h4 h5
end Gd
namespace Pu
open PySem PySem.Spec PyProof.Rows L2 Gd RZ
def dIndexV (i : Nat) (a : DE) : DE := fun x e k => match e.g[i]? with
  | some (.d (.lst ys)) => a x e fun y e1 => isInt (fun n => ∃ ns, intsD ys = some ns ∧ n ∈ ns ∧ k (.int (ns.idxOf n : Nat)) e1) y
  | _ => False
section
variable {C : Ct} {K : PySem.W.Frag} {ta : TE} {a : DE}
theorem flat_ints (ns : List Int) : (ns.map V.int).all flatV = true := by
  rw [List.all_map]
  exact List.all_eq_true.mpr fun _ _ => rfl
theorem sim_index (hK : C.R.K = K) {i : Nat} (h1 : SimE C ta a) : SimE C (tBM K "list" (rIndex K) (tVar i) (tCons ta tNil)) (dIndexV i a) := by
  subst hK
  intro x lx e hd ts vs σ H Q k rp h q
  unfold dIndexV at h
  split at h
  · rename_i ys hw
    obtain ⟨S, r⟩ := id rp
    obtain ⟨v, e1, d1⟩ := r.slots i _ hw
    obtain ⟨p, us, rfl, g1, g2, g3⟩ := d1.lst_inv
    refine ⟨_, e1, .inl ⟨rfl, _, sqL (r.sh _ _ g1)⟩, ?_⟩
    refine h1 x lx e hd _ _ σ H _ _ ⟨S, r.push (.lst g1 g2 g3)⟩ h fun y e1' w H1 h1' r1 => ?_
    cases y with
    | int n =>
      obtain ⟨ns, e2, hm, hk⟩ := h1'
      obtain ⟨S1, r1⟩ := r1
      cases r1.tmp with
      | cons c1 t =>
        cases t with
        | cons c2 t =>
          obtain rfl := c1.int_inv
          obtain ⟨p', us', ep, f1, f2, f3⟩ := c2.lst_inv
          cases ep
          have eu := ints_at e2 f2
          subst eu
          have hi : ns.idxOf n < ns.length := List.idxOf_lt_length_of_mem hm
          refine ⟨p, _, .int n, ns.idxOf n, .int n, rfl, rfl, sqL (r1.sh _ _ f1), rfl, flat_ints ns, ?_, ?_, fun m z hm' hz => ?_, q _ _ _ _ hk ⟨S1, (r1.temps t).push (.int _)⟩⟩
          · rw [List.getElem?_map, List.getElem?_eq_getElem hi, List.getElem_idxOf]
            rfl
          · show decide (n = n) = true
            exact decide_eq_true rfl
          · rw [List.getElem?_map] at hz
            obtain ⟨j, hj, rfl⟩ := Option.map_eq_some_iff.mp hz
            show decide (j = n) = false
            refine decide_eq_false fun z => ?_
            subst z
            obtain ⟨hlt, e3⟩ := List.getElem?_eq_some_iff.mp hj
            have := List.not_of_lt_findIdx (p := (· == j)) (xs := ns) (i := m) hm'
            rw [e3] at this
            simp at this
    | _ => exact h1'.elim
  · exact h.elim
end
end Pu

namespace Lw
open PySem L2 Gd Pu RZ
def top (i : Nat) : Stmt := PySem.Challenge.pw_halftruths_k36_order_values.main.body.getD i (.Pass ⟨0, 0, 0, 0⟩)
abbrev s_UnknownName_init : Stmt := inClass (top 3) 0
abbrev s_TooMany_init : Stmt := inClass (top 4) 0
abbrev s_OutOfRange_init : Stmt := inClass (top 5) 0
abbrev s_WrongMark_init : Stmt := inClass (top 6) 0
abbrev s_parts_of : Stmt := top 8
abbrev s_all_words : Stmt := top 9
abbrev s_unknowns_of : Stmt := top 10
abbrev s_check_meant : Stmt := top 13
abbrev s_check_order : Stmt := top 14
abbrev s_order_numbers : Stmt := top 15
abbrev s_given_numbers : Stmt := top 16
abbrev s_levels_at : Stmt := top 17
abbrev s_lowest_terms : Stmt := top 19
abbrev s_fraction : Stmt := top 20
abbrev s_denominator_of : Stmt := top 21
abbrev s_numbers_for : Stmt := top 22
abbrev s_check_names : Stmt := top 23
abbrev s_order_value : Stmt := top 25
abbrev s_order_types : Stmt := top 26
abbrev s_has_all_levels : Stmt := top 27
abbrev s_blocks_of : Stmt := top 28
abbrev s_order_type_of : Stmt := top 29
abbrev s_raised_type : Stmt := top 30
abbrev s_point_of_type : Stmt := top 31
abbrev s_order_level : Stmt := top 32
abbrev s_law_begun : Stmt := top 34
abbrev s_law_draw : Stmt := top 35
abbrev s_law_of : Stmt := top 36
abbrev s_law_saying : Stmt := top 37
abbrev s_law_names_in : Stmt := top 38
abbrev s_law_lowest : Stmt := top 39
abbrev s_law_turned : Stmt := top 40
abbrev s_law_ranked : Stmt := top 41
abbrev s_law_blocks : Stmt := top 42
abbrev s_law_types : Stmt := top 43
abbrev s_law_raised : Stmt := top 44
abbrev s_law_type_of : Stmt := top 45
abbrev s_law_some_value : Stmt := top 46
abbrev s_law_outcome : Stmt := top 47
abbrev s_law_point : Stmt := top 48
abbrev s_law_setting : Stmt := top 49
abbrev s_law_value_right : Stmt := top 50
abbrev s_law_refused_right : Stmt := top 51
abbrev s_law_types_right : Stmt := top 52
abbrev s_law : Stmt := top 53
/-- what the top has written -/
structure Txt (P : Program) (K : PySem.W.Frag) (mg : Str → Option Value) where
  f_parts_of : Addr
  d_parts_of : FuncData
  F_parts_of : Fun K "parts_of" "parts_of" s_parts_of f_parts_of d_parts_of
  b_parts_of : Binds K d_parts_of ["word"] []
  g_parts_of : mg "parts_of" = some (.ref f_parts_of)
  f_all_words : Addr
  d_all_words : FuncData
  F_all_words : Fun K "all_words" "all_words" s_all_words f_all_words d_all_words
  b_all_words : Binds K d_all_words ["saying"] []
  g_all_words : mg "all_words" = some (.ref f_all_words)
  f_unknowns_of : Addr
  d_unknowns_of : FuncData
  F_unknowns_of : Fun K "unknowns_of" "unknowns_of" s_unknowns_of f_unknowns_of d_unknowns_of
  b_unknowns_of : Binds K d_unknowns_of ["sayings"] []
  g_unknowns_of : mg "unknowns_of" = some (.ref f_unknowns_of)
  f_check_meant : Addr
  d_check_meant : FuncData
  F_check_meant : Fun K "check_meant" "check_meant" s_check_meant f_check_meant d_check_meant
  b_check_meant : Binds K d_check_meant ["sayings"] []
  g_check_meant : mg "check_meant" = some (.ref f_check_meant)
  f_check_order : Addr
  d_check_order : FuncData
  F_check_order : Fun K "check_order" "check_order" s_check_order f_check_order d_check_order
  b_check_order : Binds K d_check_order ["sayings"] []
  g_check_order : mg "check_order" = some (.ref f_check_order)
  f_order_numbers : Addr
  d_order_numbers : FuncData
  F_order_numbers : Fun K "order_numbers" "order_numbers" s_order_numbers f_order_numbers d_order_numbers
  b_order_numbers : Binds K d_order_numbers ["saying", "columns", "top", "size"] []
  g_order_numbers : mg "order_numbers" = some (.ref f_order_numbers)
  f_given_numbers : Addr
  d_given_numbers : FuncData
  F_given_numbers : Fun K "given_numbers" "given_numbers" s_given_numbers f_given_numbers d_given_numbers
  b_given_numbers : Binds K d_given_numbers ["mark", "firsts", "seconds", "top"] []
  g_given_numbers : mg "given_numbers" = some (.ref f_given_numbers)
  f_levels_at : Addr
  d_levels_at : FuncData
  F_levels_at : Fun K "levels_at" "levels_at" s_levels_at f_levels_at d_levels_at
  b_levels_at : Binds K d_levels_at ["saying", "names", "kinds"] []
  g_levels_at : mg "levels_at" = some (.ref f_levels_at)
  f_lowest_terms : Addr
  d_lowest_terms : FuncData
  F_lowest_terms : Fun K "lowest_terms" "lowest_terms" s_lowest_terms f_lowest_terms d_lowest_terms
  b_lowest_terms : Binds K d_lowest_terms ["above", "below"] []
  g_lowest_terms : mg "lowest_terms" = some (.ref f_lowest_terms)
  f_fraction : Addr
  d_fraction : FuncData
  F_fraction : Fun K "fraction" "fraction" s_fraction f_fraction d_fraction
  b_fraction : Binds K d_fraction ["above", "below"] []
  g_fraction : mg "fraction" = some (.ref f_fraction)
  f_denominator_of : Addr
  d_denominator_of : FuncData
  F_denominator_of : Fun K "denominator_of" "denominator_of" s_denominator_of f_denominator_of d_denominator_of
  b_denominator_of : Binds K d_denominator_of ["point"] []
  g_denominator_of : mg "denominator_of" = some (.ref f_denominator_of)
  f_numbers_for : Addr
  d_numbers_for : FuncData
  F_numbers_for : Fun K "numbers_for" "numbers_for" s_numbers_for f_numbers_for d_numbers_for
  b_numbers_for : Binds K d_numbers_for ["names", "point"] []
  g_numbers_for : mg "numbers_for" = some (.ref f_numbers_for)
  f_check_names : Addr
  d_check_names : FuncData
  F_check_names : Fun K "check_names" "check_names" s_check_names f_check_names d_check_names
  b_check_names : Binds K d_check_names ["needed", "names"] []
  g_check_names : mg "check_names" = some (.ref f_check_names)
  f_order_value : Addr
  d_order_value : FuncData
  F_order_value : Fun K "order_value" "order_value" s_order_value f_order_value d_order_value
  b_order_value : Binds K d_order_value ["saying", "names", "point"] []
  g_order_value : mg "order_value" = some (.ref f_order_value)
  f_order_types : Addr
  d_order_types : FuncData
  F_order_types : Fun K "order_types" "order_types" s_order_types f_order_types d_order_types
  b_order_types : Binds K d_order_types ["count"] []
  g_order_types : mg "order_types" = some (.ref f_order_types)
  f_has_all_levels : Addr
  d_has_all_levels : FuncData
  F_has_all_levels : Fun K "has_all_levels" "has_all_levels" s_has_all_levels f_has_all_levels d_has_all_levels
  b_has_all_levels : Binds K d_has_all_levels ["levels"] []
  g_has_all_levels : mg "has_all_levels" = some (.ref f_has_all_levels)
  f_blocks_of : Addr
  d_blocks_of : FuncData
  F_blocks_of : Fun K "blocks_of" "blocks_of" s_blocks_of f_blocks_of d_blocks_of
  b_blocks_of : Binds K d_blocks_of ["kind"] []
  g_blocks_of : mg "blocks_of" = some (.ref f_blocks_of)
  f_order_type_of : Addr
  d_order_type_of : FuncData
  F_order_type_of : Fun K "order_type_of" "order_type_of" s_order_type_of f_order_type_of d_order_type_of
  b_order_type_of : Binds K d_order_type_of ["point"] []
  g_order_type_of : mg "order_type_of" = some (.ref f_order_type_of)
  f_raised_type : Addr
  d_raised_type : FuncData
  F_raised_type : Fun K "raised_type" "raised_type" s_raised_type f_raised_type d_raised_type
  b_raised_type : Binds K d_raised_type ["kind"] []
  g_raised_type : mg "raised_type" = some (.ref f_raised_type)
  f_point_of_type : Addr
  d_point_of_type : FuncData
  F_point_of_type : Fun K "point_of_type" "point_of_type" s_point_of_type f_point_of_type d_point_of_type
  b_point_of_type : Binds K d_point_of_type ["kind"] []
  g_point_of_type : mg "point_of_type" = some (.ref f_point_of_type)
  f_order_level : Addr
  d_order_level : FuncData
  F_order_level : Fun K "order_level" "order_level" s_order_level f_order_level d_order_level
  b_order_level : Binds K d_order_level ["saying", "names", "kind"] []
  g_order_level : mg "order_level" = some (.ref f_order_level)
  f_law_begun : Addr
  d_law_begun : FuncData
  F_law_begun : Fun K "_law_begun" "_law_begun" s_law_begun f_law_begun d_law_begun
  b_law_begun : Binds K d_law_begun ["script", "k"] []
  g_law_begun : mg "_law_begun" = some (.ref f_law_begun)
  f_law_draw : Addr
  d_law_draw : FuncData
  F_law_draw : Fun K "_law_draw" "_law_draw" s_law_draw f_law_draw d_law_draw
  b_law_draw : Binds K d_law_draw ["m", "below"] []
  g_law_draw : mg "_law_draw" = some (.ref f_law_draw)
  f_law_of : Addr
  d_law_of : FuncData
  F_law_of : Fun K "_law_of" "_law_of" s_law_of f_law_of d_law_of
  b_law_of : Binds K d_law_of ["m", "some"] []
  g_law_of : mg "_law_of" = some (.ref f_law_of)
  f_law_saying : Addr
  d_law_saying : FuncData
  F_law_saying : Fun K "_law_saying" "_law_saying" s_law_saying f_law_saying d_law_saying
  b_law_saying : Binds K d_law_saying ["m", "names", "size"] []
  g_law_saying : mg "_law_saying" = some (.ref f_law_saying)
  f_law_names_in : Addr
  d_law_names_in : FuncData
  F_law_names_in : Fun K "_law_names_in" "_law_names_in" s_law_names_in f_law_names_in d_law_names_in
  b_law_names_in : Binds K d_law_names_in ["saying", "found"] []
  g_law_names_in : mg "_law_names_in" = some (.ref f_law_names_in)
  f_law_lowest : Addr
  d_law_lowest : FuncData
  F_law_lowest : Fun K "_law_lowest" "_law_lowest" s_law_lowest f_law_lowest d_law_lowest
  b_law_lowest : Binds K d_law_lowest ["above", "below"] []
  g_law_lowest : mg "_law_lowest" = some (.ref f_law_lowest)
  f_law_turned : Addr
  d_law_turned : FuncData
  F_law_turned : Fun K "_law_turned" "_law_turned" s_law_turned f_law_turned d_law_turned
  b_law_turned : Binds K d_law_turned ["saying"] []
  g_law_turned : mg "_law_turned" = some (.ref f_law_turned)
  f_law_ranked : Addr
  d_law_ranked : FuncData
  F_law_ranked : Fun K "_law_ranked" "_law_ranked" s_law_ranked f_law_ranked d_law_ranked
  b_law_ranked : Binds K d_law_ranked ["saying", "table", "whole"] []
  g_law_ranked : mg "_law_ranked" = some (.ref f_law_ranked)
  f_law_blocks : Addr
  d_law_blocks : FuncData
  F_law_blocks : Fun K "_law_blocks" "_law_blocks" s_law_blocks f_law_blocks d_law_blocks
  b_law_blocks : Binds K d_law_blocks ["kind"] []
  g_law_blocks : mg "_law_blocks" = some (.ref f_law_blocks)
  f_law_types : Addr
  d_law_types : FuncData
  F_law_types : Fun K "_law_types" "_law_types" s_law_types f_law_types d_law_types
  b_law_types : Binds K d_law_types ["count"] []
  g_law_types : mg "_law_types" = some (.ref f_law_types)
  f_law_raised : Addr
  d_law_raised : FuncData
  F_law_raised : Fun K "_law_raised" "_law_raised" s_law_raised f_law_raised d_law_raised
  b_law_raised : Binds K d_law_raised ["kind"] []
  g_law_raised : mg "_law_raised" = some (.ref f_law_raised)
  f_law_type_of : Addr
  d_law_type_of : FuncData
  F_law_type_of : Fun K "_law_type_of" "_law_type_of" s_law_type_of f_law_type_of d_law_type_of
  b_law_type_of : Binds K d_law_type_of ["point"] []
  g_law_type_of : mg "_law_type_of" = some (.ref f_law_type_of)
  f_law_some_value : Addr
  d_law_some_value : FuncData
  F_law_some_value : Fun K "_law_some_value" "_law_some_value" s_law_some_value f_law_some_value d_law_some_value
  b_law_some_value : Binds K d_law_some_value ["m"] []
  g_law_some_value : mg "_law_some_value" = some (.ref f_law_some_value)
  f_law_outcome : Addr
  d_law_outcome : FuncData
  F_law_outcome : Fun K "_law_outcome" "_law_outcome" s_law_outcome f_law_outcome d_law_outcome
  b_law_outcome : Binds K d_law_outcome ["call"] []
  g_law_outcome : mg "_law_outcome" = some (.ref f_law_outcome)
  f_law_point : Addr
  d_law_point : FuncData
  F_law_point : Fun K "_law_point" "_law_point" s_law_point f_law_point d_law_point
  b_law_point : Binds K d_law_point ["m", "count"] []
  g_law_point : mg "_law_point" = some (.ref f_law_point)
  f_law_setting : Addr
  d_law_setting : FuncData
  F_law_setting : Fun K "_law_setting" "_law_setting" s_law_setting f_law_setting d_law_setting
  b_law_setting : Binds K d_law_setting ["m"] []
  g_law_setting : mg "_law_setting" = some (.ref f_law_setting)
  f_law_value_right : Addr
  d_law_value_right : FuncData
  c_law_value_right : Addr
  P_law_value_right : Addr
  F_law_value_right : FunL K "_law_value_right" "_law_value_right" s_law_value_right f_law_value_right d_law_value_right c_law_value_right
  b_law_value_right : Binds K d_law_value_right ["m"] []
  g_law_value_right : mg "_law_value_right" = some (.ref f_law_value_right)
  f_law_refused_right : Addr
  d_law_refused_right : FuncData
  c_law_refused_right : Addr
  P_law_refused_right : Addr
  F_law_refused_right : FunL K "_law_refused_right" "_law_refused_right" s_law_refused_right f_law_refused_right d_law_refused_right c_law_refused_right
  b_law_refused_right : Binds K d_law_refused_right ["m"] []
  g_law_refused_right : mg "_law_refused_right" = some (.ref f_law_refused_right)
  f_law_types_right : Addr
  d_law_types_right : FuncData
  c_law_types_right : Addr
  P_law_types_right : Addr
  F_law_types_right : FunL K "_law_types_right" "_law_types_right" s_law_types_right f_law_types_right d_law_types_right c_law_types_right
  b_law_types_right : Binds K d_law_types_right ["m"] []
  g_law_types_right : mg "_law_types_right" = some (.ref f_law_types_right)
  q_law_value_right_law_refused_right : P_law_value_right ≠ P_law_refused_right
  q_law_value_right_law_types_right : P_law_value_right ≠ P_law_types_right
  q_law_refused_right_law_types_right : P_law_refused_right ≠ P_law_types_right
  m_gcd : mg "gcd" = some (.builtin "math.gcd")
  m_lcm : mg "lcm" = some (.builtin "math.lcm")
  C_UnknownName : Addr
  m_UnknownName : mg "UnknownName" = some (.ref C_UnknownName)
  o_UnknownName : OexC K C_UnknownName
  x_UnknownName : XfC K C_UnknownName
  f_UnknownName_init : Addr
  d_UnknownName_init : FuncData
  F_UnknownName_init : SupFun P K C_UnknownName "UnknownName.__init__" s_UnknownName_init f_UnknownName_init d_UnknownName_init
  S_UnknownName : SupC P K C_UnknownName
  b_UnknownName_init : Binds K d_UnknownName_init ["self", "name"] []
  i_UnknownName : PySem.W.findIn K (.ref C_UnknownName) "__init__" = some (some (.ref f_UnknownName_init))
  t_UnknownName : PySem.W.typeIn K (.ref f_UnknownName_init) = some (.type "function")
  n_UnknownName_name : PySem.W.findIn K (.ref C_UnknownName) "name" = some none
  C_TooMany : Addr
  m_TooMany : mg "TooMany" = some (.ref C_TooMany)
  o_TooMany : OexC K C_TooMany
  x_TooMany : XfC K C_TooMany
  f_TooMany_init : Addr
  d_TooMany_init : FuncData
  F_TooMany_init : SupFun P K C_TooMany "TooMany.__init__" s_TooMany_init f_TooMany_init d_TooMany_init
  S_TooMany : SupC P K C_TooMany
  b_TooMany_init : Binds K d_TooMany_init ["self", "what"] []
  i_TooMany : PySem.W.findIn K (.ref C_TooMany) "__init__" = some (some (.ref f_TooMany_init))
  t_TooMany : PySem.W.typeIn K (.ref f_TooMany_init) = some (.type "function")
  n_TooMany_what : PySem.W.findIn K (.ref C_TooMany) "what" = some none
  C_OutOfRange : Addr
  m_OutOfRange : mg "OutOfRange" = some (.ref C_OutOfRange)
  o_OutOfRange : OexC K C_OutOfRange
  x_OutOfRange : XfC K C_OutOfRange
  f_OutOfRange_init : Addr
  d_OutOfRange_init : FuncData
  F_OutOfRange_init : SupFun P K C_OutOfRange "OutOfRange.__init__" s_OutOfRange_init f_OutOfRange_init d_OutOfRange_init
  S_OutOfRange : SupC P K C_OutOfRange
  b_OutOfRange_init : Binds K d_OutOfRange_init ["self", "value"] []
  i_OutOfRange : PySem.W.findIn K (.ref C_OutOfRange) "__init__" = some (some (.ref f_OutOfRange_init))
  t_OutOfRange : PySem.W.typeIn K (.ref f_OutOfRange_init) = some (.type "function")
  n_OutOfRange_value : PySem.W.findIn K (.ref C_OutOfRange) "value" = some none
  C_WrongMark : Addr
  m_WrongMark : mg "WrongMark" = some (.ref C_WrongMark)
  o_WrongMark : OexC K C_WrongMark
  x_WrongMark : XfC K C_WrongMark
  f_WrongMark_init : Addr
  d_WrongMark_init : FuncData
  F_WrongMark_init : SupFun P K C_WrongMark "WrongMark.__init__" s_WrongMark_init f_WrongMark_init d_WrongMark_init
  S_WrongMark : SupC P K C_WrongMark
  b_WrongMark_init : Binds K d_WrongMark_init ["self", "mark"] []
  i_WrongMark : PySem.W.findIn K (.ref C_WrongMark) "__init__" = some (some (.ref f_WrongMark_init))
  t_WrongMark : PySem.W.typeIn K (.ref f_WrongMark_init) = some (.type "function")
  n_WrongMark_mark : PySem.W.findIn K (.ref C_WrongMark) "mark" = some none
  e_UnknownName_WrongMark : PySem.W.exmOne K (.ref C_UnknownName) (.ref C_WrongMark) = some false
  e_UnknownName_TooMany : PySem.W.exmOne K (.ref C_UnknownName) (.ref C_TooMany) = some false
  e_UnknownName_UnknownName : PySem.W.exmOne K (.ref C_UnknownName) (.ref C_UnknownName) = some true
  e_UnknownName_OutOfRange : PySem.W.exmOne K (.ref C_UnknownName) (.ref C_OutOfRange) = some false
  e_TooMany_WrongMark : PySem.W.exmOne K (.ref C_TooMany) (.ref C_WrongMark) = some false
  e_TooMany_TooMany : PySem.W.exmOne K (.ref C_TooMany) (.ref C_TooMany) = some true
  e_TooMany_UnknownName : PySem.W.exmOne K (.ref C_TooMany) (.ref C_UnknownName) = some false
  e_TooMany_OutOfRange : PySem.W.exmOne K (.ref C_TooMany) (.ref C_OutOfRange) = some false
  e_OutOfRange_WrongMark : PySem.W.exmOne K (.ref C_OutOfRange) (.ref C_WrongMark) = some false
  e_OutOfRange_TooMany : PySem.W.exmOne K (.ref C_OutOfRange) (.ref C_TooMany) = some false
  e_OutOfRange_UnknownName : PySem.W.exmOne K (.ref C_OutOfRange) (.ref C_UnknownName) = some false
  e_OutOfRange_OutOfRange : PySem.W.exmOne K (.ref C_OutOfRange) (.ref C_OutOfRange) = some true
  e_WrongMark_WrongMark : PySem.W.exmOne K (.ref C_WrongMark) (.ref C_WrongMark) = some true
  e_WrongMark_TooMany : PySem.W.exmOne K (.ref C_WrongMark) (.ref C_TooMany) = some false
  e_WrongMark_UnknownName : PySem.W.exmOne K (.ref C_WrongMark) (.ref C_UnknownName) = some false
  e_WrongMark_OutOfRange : PySem.W.exmOne K (.ref C_WrongMark) (.ref C_OutOfRange) = some false
  z_super : mg "super" = none
  z_tuple : mg "tuple" = none
  z_list : mg "list" = none
  z_any : mg "any" = none
  z_len : mg "len" = none
  z_zip : mg "zip" = none
  z_min : mg "min" = none
  z_enumerate : mg "enumerate" = none
  z_range : mg "range" = none
  z_all : mg "all" = none
  z_max : mg "max" = none
  z_sorted : mg "sorted" = none
  z_int : mg "int" = none
  z_abs : mg "abs" = none
  z_set : mg "set" = none
  z_dict : mg "dict" = none
  z_repr : mg "repr" = none
  u_MOST_UNKNOWNS : Value
  c_MOST_UNKNOWNS : mg "MOST_UNKNOWNS" = some u_MOST_UNKNOWNS
  r_MOST_UNKNOWNS : RelV (.int 4) u_MOST_UNKNOWNS
def tabsT {P : Program} {K : PySem.W.Frag} {mg : Str → Option Value} (T : Txt P K mg) : List (Addr × Str) := [(T.P_law_value_right, (("_law_value_right" : Str) ++ ".<locals>.") ++ "<lambda>"), (T.P_law_refused_right, (("_law_refused_right" : Str) ++ ".<locals>.") ++ "<lambda>"), (T.P_law_types_right, (("_law_types_right" : Str) ++ ".<locals>.") ++ "<lambda>")]
theorem lamM_law_value_right {P : Program} {K : PySem.W.Frag} {mg : Str → Option Value} (T : Txt P K mg) : (T.P_law_value_right, (("_law_value_right" : Str) ++ ".<locals>.") ++ "<lambda>") ∈ tabsT T := by
  unfold tabsT
  exact (List.mem_cons_self ..)
theorem lamU_law_value_right {P : Program} {K : PySem.W.Frag} {mg : Str → Option Value} (T : Txt P K mg) : ∀ y ∈ tabsT T, y.1 = T.P_law_value_right → y.2 = (("_law_value_right" : Str) ++ ".<locals>.") ++ "<lambda>" := by
  intro y hp e
  unfold tabsT at hp
  rcases List.mem_cons.mp hp with rfl | hp
  · rfl
  rcases List.mem_cons.mp hp with rfl | hp
  · exact absurd e (Ne.symm T.q_law_value_right_law_refused_right)
  rcases List.mem_cons.mp hp with rfl | hp
  · exact absurd e (Ne.symm T.q_law_value_right_law_types_right)
  cases hp
theorem lamM_law_refused_right {P : Program} {K : PySem.W.Frag} {mg : Str → Option Value} (T : Txt P K mg) : (T.P_law_refused_right, (("_law_refused_right" : Str) ++ ".<locals>.") ++ "<lambda>") ∈ tabsT T := by
  unfold tabsT
  exact (List.mem_cons_of_mem _ (List.mem_cons_self ..))
theorem lamU_law_refused_right {P : Program} {K : PySem.W.Frag} {mg : Str → Option Value} (T : Txt P K mg) : ∀ y ∈ tabsT T, y.1 = T.P_law_refused_right → y.2 = (("_law_refused_right" : Str) ++ ".<locals>.") ++ "<lambda>" := by
  intro y hp e
  unfold tabsT at hp
  rcases List.mem_cons.mp hp with rfl | hp
  · exact absurd e T.q_law_value_right_law_refused_right
  rcases List.mem_cons.mp hp with rfl | hp
  · rfl
  rcases List.mem_cons.mp hp with rfl | hp
  · exact absurd e (Ne.symm T.q_law_refused_right_law_types_right)
  cases hp
theorem lamM_law_types_right {P : Program} {K : PySem.W.Frag} {mg : Str → Option Value} (T : Txt P K mg) : (T.P_law_types_right, (("_law_types_right" : Str) ++ ".<locals>.") ++ "<lambda>") ∈ tabsT T := by
  unfold tabsT
  exact (List.mem_cons_of_mem _ (List.mem_cons_of_mem _ (List.mem_cons_self ..)))
theorem lamU_law_types_right {P : Program} {K : PySem.W.Frag} {mg : Str → Option Value} (T : Txt P K mg) : ∀ y ∈ tabsT T, y.1 = T.P_law_types_right → y.2 = (("_law_types_right" : Str) ++ ".<locals>.") ++ "<lambda>" := by
  intro y hp e
  unfold tabsT at hp
  rcases List.mem_cons.mp hp with rfl | hp
  · exact absurd e T.q_law_value_right_law_types_right
  rcases List.mem_cons.mp hp with rfl | hp
  · exact absurd e T.q_law_refused_right_law_types_right
  rcases List.mem_cons.mp hp with rfl | hp
  · rfl
  cases hp

local macro_rules | `(tactic| walk_at "rd1") => `(tactic| first
  | with_reducible refine rd_for ?_ | with_reducible refine rd_lc ?_ | with_reducible refine rd_iL ?_ | with_reducible refine rd_iT ?_ | with_reducible refine rd_iR1 ?_ | with_reducible refine rd_iZ ?_
  | with_reducible refine rd_pcons ?_ | with_reducible refine rd_pnil ?_ | with_reducible refine rd_disp ?_
  | with_reducible refine rd_bm ?_ | with_reducible refine rd_bm0 ?_ | with_reducible refine rd_revT ?_
  | with_reducible refine rd_gname ?_ | with_reducible refine rd_gcons ?_ | with_reducible refine rd_gnil ?_
  | with_reducible refine rd_seq ?_ | with_reducible refine rd_asg ?_ | with_reducible refine rd_asgG ?_ | with_reducible refine rd_ii ?_ | with_reducible refine rd_op ?_ | with_reducible refine rd_c ?_
  | ((with_reducible refine' rd_var ?rdh ?_); (case rdh => rfl))
  | with_reducible refine rd_i0 ?_ | with_reducible refine rd_ret ?_ | with_reducible refine rd_ifs ?_ | with_reducible refine rd_test ?_ | with_reducible refine rd_bl ?_
  | with_reducible refine rd_cb ?_ | with_reducible refine rd_cons ?_ | with_reducible refine rd_nil ?_ | with_reducible refine rd_call ?_
  | with_reducible refine rd_tup ?_ | with_reducible refine rd_lst ?_ | with_reducible refine rd_if ?_ | with_reducible refine rd_un ?_ | with_reducible refine rd_u ?_
  | with_reducible refine rd_dget ?_ | with_reducible refine rd_dput ?_ | with_reducible refine rd_par ?_ | with_reducible refine rd_pair ?_ | with_reducible refine rd_intI ?_
  | with_reducible refine rd_sl ?_ | with_reducible refine rd_nopart ?_ | with_reducible refine rd_part ?_ | with_reducible refine rd_int ?_
  | with_reducible refine rd_next ?_ | with_reducible refine rd_drop ?_ | with_reducible refine rd_retN ?_ | with_reducible refine rd_tb ?_
  | with_reducible refine rd_and ?_ | with_reducible refine rd_or ?_ | with_reducible refine rd_not ?_ | with_reducible refine rd_andV ?_ | with_reducible refine rd_orV ?_ | with_reducible refine rd_notV ?_
  | ((with_reducible refine rd_eq ?rdh ?_); (case rdh => rfl)) | ((with_reducible refine rd_ne ?rdh ?_); (case rdh => rfl))
  | ((with_reducible refine rd_i ?rdh ?_); (case rdh => first | decide | omega | exact ⟨by omega, by omega⟩ | exact ⟨by decide, by decide, by decide⟩ | exact .inl ⟨by omega, by omega⟩ | exact .inr ⟨by omega, by omega⟩))
  | (fail_if_success (with_reducible refine rd_i ?_ ?_)); dsimp only)
local macro_rules | `(tactic| walk_at "rd") => `(tactic| repeat (walk_at "rd1"))
local macro_rules | `(tactic| walk_at "difs") => `(tactic| (walk_at "rd"; repeat ((first | refine rd_true (by decide +kernel) ?_ | refine rd_false (by decide +kernel) ?_); walk_at "rd")))

local macro_rules | `(tactic| walk_at "simr") => `(tactic| first
  | with_reducible exact simr_i0 | with_reducible exact simr_i | with_reducible exact simu_i | with_reducible exact simr_eq | with_reducible exact simr_ne | with_reducible exact simr_isN | with_reducible exact simr_isB | with_reducible exact simr_notB | with_reducible exact simr_notN | with_reducible exact simr_ixL rfl | with_reducible exact simr_ixT rfl
  | with_reducible exact siml_sl rfl | with_reducible exact simr_catT rfl | with_reducible exact simr_repT rfl | with_reducible exact simr_in rfl | with_reducible exact simr_ip | with_reducible exact simr_inDT rfl | with_reducible exact simr_addS | with_reducible exact simr_inS | with_reducible exact simr_notinS | with_reducible exact simr_ixS
  | with_reducible exact simb_len rfl | with_reducible exact simb_tupleOf rfl | with_reducible exact simb_sum rfl | with_reducible exact simb_all rfl | with_reducible exact simb_any rfl | with_reducible exact simb_max2 | with_reducible exact simb_min2 | with_reducible exact simb_gcd | with_reducible exact simb_lcm | with_reducible exact simb_lenS
  | with_reducible exact simb_abs | with_reducible exact simb_max3 | with_reducible exact simb_maxT rfl | with_reducible exact simb_int1 | with_reducible exact simr_eqD rfl | with_reducible exact simr_neD rfl | with_reducible exact simb_repr rfl | with_reducible exact simb_lenDic | with_reducible exact simb_max rfl | with_reducible exact simb_min rfl | with_reducible exact simb_isi rfl | with_reducible exact simb_min2T rfl | with_reducible exact simb_max2T rfl | with_reducible exact simr_geT rfl)
local macro_rules | `(tactic| walk_at "simf") => `(tactic| first
  | with_reducible exact simrf_cat | with_reducible exact simrf_rep | with_reducible exact simlf_sl rfl | with_reducible exact simbf_listOf rfl | with_reducible exact simbf_listDic | with_reducible exact simbf_sortI rfl)
local macro_rules | `(tactic| walk_at "sim1") => `(tactic| first
  | with_reducible refine' sim_seq ?_ ?_ | with_reducible refine' sim_ifs ?_ ?_ ?_ | with_reducible refine' sim_ret ?_ | with_reducible exact sim_retN | with_reducible exact sim_next | with_reducible exact sim_break | with_reducible exact sim_cont
  | (with_reducible refine' sim_asgO' ?mk ?_; (case mk => assumption)) | (with_reducible refine' sim_asgK' ?mk ?_; (case mk => assumption))
  | (with_reducible refine' sim_parP ?mk ?_ ?_; (case mk => assumption))
  | (with_reducible refine' sim_parO ?mk ?ml ?hij ?_ ?_; (case mk => assumption); (case ml => assumption); (case hij => decide))
  | with_reducible refine' sim_asg ?_ ?_ | with_reducible refine' sim_drop ?_ | with_reducible refine' sim_par ?_ | with_reducible refine' sim_par3 ?_ | (with_reducible refine' sim_aug ?hr ?_; (case hr => walk_at "simr"))
  | with_reducible refine' sim_dput ?_ ?_ | with_reducible refine' sim_for ?_ ?_ ?_ | with_reducible refine' sim_while ?_ ?_ | with_reducible refine' sim_raise ?_
  | with_reducible exact sim_name | with_reducible refine' sim_gtupN rfl ?_ ?_ | with_reducible exact sim_gnil | with_reducible refine' sim_gcons ?_ ?_
  | with_reducible refine' rchs_cons ?_ ?_ | with_reducible exact rchs_nil | with_reducible exact rch_name | with_reducible refine' rch_tup ?_
  | with_reducible refine' sim_truVar rfl | with_reducible refine' sim_tru rfl ?_
  | with_reducible refine' sim_lenV rfl | with_reducible refine' sim_ixV rfl ?_ | with_reducible refine' sim_inV rfl ?_ | with_reducible refine' sim_dgetV ?_ | with_reducible refine' sim_dinV ?_ | with_reducible refine' sim_dninV ?_
  | with_reducible exact sim_var | (with_reducible refine' sim_kc ?mk rfl; (case mk => assumption)) | with_reducible exact sim_c
  | (with_reducible refine' sim_op ?hr ?_ ?_; (case hr => walk_at "simr")) | (with_reducible refine' sim_fr (simf_op ?hr ?_ ?_); (case hr => walk_at "simf"))
  | (with_reducible refine' sim_un ?hr ?_; (case hr => walk_at "simr"))
  | (with_reducible refine' sim_cb ?hr ?_; (case hr => walk_at "simr")) | (with_reducible refine' sim_fr (simf_cb ?hr ?_); (case hr => walk_at "simf"))
  | (with_reducible refine' sim_sl ?hr ?_ ?_ ?_; (case hr => walk_at "simr")) | (with_reducible refine' sim_fr (simf_sl ?hr ?_ ?_ ?_); (case hr => walk_at "simf"))
  | with_reducible refine' sim_tup ?_ | with_reducible refine' sim_lst ?_ | with_reducible exact sim_nil | with_reducible refine' sim_cons ?_ ?_ | with_reducible exact sim_nopart | with_reducible refine' sim_part ?_
  | with_reducible refine' sim_b ?_ | with_reducible refine' sim_test ?_ | with_reducible refine' sim_and ?_ ?_ | with_reducible refine' sim_or ?_ ?_ | with_reducible refine' sim_not ?_ | with_reducible refine' sim_andV ?_ ?_ | with_reducible refine' sim_orV ?_ ?_ | with_reducible refine' sim_notV ?_
  | with_reducible refine' sim_if ?_ ?_ ?_ | (with_reducible refine' sim_chain ?hr ?hq ?_ ?_ ?_; (case hr => walk_at "simr"); (case hq => walk_at "simr")) | with_reducible exact sim_yes
  | with_reducible refine' sim_callX rfl rfl ?_ | with_reducible refine' sim_call0 rfl ?_ | with_reducible refine' sim_callLo rfl ?_ | with_reducible refine' sim_callMX rfl rfl rfl rfl ?_ | with_reducible refine' sim_callM0 rfl rfl rfl ?_
  | (with_reducible refine' sim_lam ?a ?b ?c ?mk (fun E => ?_); (case a => rfl); (case b => rfl); (case c => rfl); (case mk => assumption))
  | (with_reducible refine' sim_tryD rfl (fun W => ?_) ?_) | with_reducible exact HsOk.nil | (with_reducible refine' HsOk.cons (fun H0 S0 a c dd g y hf => ?_) ?_) | with_reducible refine' simw_asg ?_ ?_ | with_reducible refine' simw_ret ?_ | with_reducible refine' simw_drop ?_
  | (with_reducible refine' simw_if (fun E => ?_) ?_ ?_) | (with_reducible refine' simw_call rfl (fun E => ?_)) | (with_reducible refine' simw_pure (fun E => ?_)) | (with_reducible refine' sim_xf ?hx ?_; (case hx => assumption))
  | (with_reducible refine' sim_lamL ?a ?b ?c ?mk (fun E => ?_); (case a => rfl); (case b => rfl); (case c => rfl); (case mk => assumption))
  | with_reducible refine' sim_append ?_ | with_reducible refine' sim_pop | with_reducible refine' sim_extU rfl ?_ | with_reducible refine' sim_popAt rfl ?_ | with_reducible refine' sim_revT rfl ?_ | with_reducible refine' sim_revL rfl ?_ | with_reducible refine' sim_dget ?_ ?_
  | with_reducible refine' sim_notT rfl ?_ | with_reducible refine' sim_maxD rfl ?_ ?_ | with_reducible refine' sim_minD rfl ?_ ?_ | with_reducible refine' sim_lenSet rfl ?_
  | with_reducible refine' sim_iL rfl ?_ | with_reducible refine' sim_iT rfl ?_ | with_reducible refine' sim_iR1 ?_ | with_reducible refine' sim_iR2 ?_ | with_reducible refine' sim_iR3 ?_ | with_reducible refine' sim_iZA rfl ?_ | with_reducible refine' sim_iZM rfl ?_ | with_reducible refine' sim_iZN rfl ?_ | with_reducible refine' sim_iZ3 rfl ?_
  | with_reducible refine' sim_iE rfl ?_ | with_reducible refine' sim_iET rfl ?_ | with_reducible refine' sim_iS ?_
  | with_reducible refine' simf_lst ?_ | with_reducible refine' simf_lc ?_ ?_ ?_ ?_ ?_ | with_reducible refine' simf_lc2 ?_ ?_ ?_ ?_ ?_ ?_ ?_ ?_ ?_ ?_
  | (with_reducible refine' simf_op ?hr ?_ ?_; (case hr => walk_at "simf")) | (with_reducible refine' simf_cb ?hr ?_; (case hr => walk_at "simf")) | (with_reducible refine' simf_sl ?hr ?_ ?_ ?_; (case hr => walk_at "simf"))
  | with_reducible refine' sim_fr (simf_lc ?_ ?_ ?_ ?_ ?_) | with_reducible refine' sim_fr (simf_lc2 ?_ ?_ ?_ ?_ ?_ ?_ ?_ ?_ ?_ ?_)
  | with_reducible exact simk_new | with_reducible exact simk_disp4 | with_reducible exact sim_kr simk_disp4 | with_reducible refine' simk_zip rfl ?_ | with_reducible refine' simk_dictLZ rfl ?_ | with_reducible refine' simk_dc ?_ ?_ ?_ ?_ ?_ ?_
  | with_reducible refine' sim_kr simk_new | with_reducible refine' sim_kr (simk_zip rfl ?_) | with_reducible refine' sim_kr (simk_dictLZ rfl ?_) | with_reducible refine' sim_kr (simk_dc ?_ ?_ ?_ ?_ ?_ ?_)
  | with_reducible refine' simk_inside ?_ ?_ | with_reducible refine' sim_kr (simk_inside ?_ ?_) | with_reducible refine' sim_index rfl ?_ | with_reducible refine' simf_listRg ?_ | with_reducible refine' sim_fr (simf_listRg ?_) | with_reducible refine' sim_iZX ?_ ?_ | with_reducible refine' simf_sortSet rfl ?_ | with_reducible refine' sim_fr (simf_sortSet rfl ?_)
  | exact rchs_nil | refine' rchs_cons ?_ ?_)
local macro_rules | `(tactic| walk_at "sim") => `(tactic| ((repeat' (walk_at "sim1")); all_goals decide))
local macro_rules | `(tactic| walk_at "d") => `(tactic| simp only [startF, dVar, dC, dOp, dUn, dNil, dCons, dCB, dTup, dLst, isBl_r, dB, dAnd, dOr, dNot, dAndV, dOrV, dNotV, dIf, dChain, isInt_r, dNoPart, dPart, dSl, dSeq, dNext, dBreak, dCont, dDrop, dRet, dRetN, dIfS, dAsg, dName, dPar, dAug,
  tru, dTru, dTruVar, wipeF, dFor, dYes, dLc, dTupG_r, dGNil_r, dGCons_r, dFr, dAsgO, fLst, fLc, fOp, fCB, fSl, dAppend, dPop, dCall0, dCallX, dCallM0, dCallMX, dCallL, dLam, dLamL, dTry, dXf, dCallT, dIfT, dPureT, dParO, dParP, dPar3, oI_r, oIC_r, oU_r, oEq_ii, oEq_ss, oEq_bb, oEq_nn, oEq_ni, oEq_ns, oEq_nb, oEq_in, oEq_sn, oEq_bn, oEq_is, oEq_si, oEq_bs, oEq_sb, oNe, nonD, oIsN, oNotN, onS, oIxL_r, oIxT_r, oSlT_r, oSlL_r, oCatT_r, oCatL_r, oRepL_r, oRepT_r,
  ofStr_eq, String.reduceEq, flatD, oIn_l, oIn_t, oLen_l, oLen_t, oTupleOf_l, oTupleOf_t, oListOf_l, oListOf_t, oSum_r, oAll_r, oAny_r, o2_r, o1_r, tyD, oIsi_r, oItL_r, oItT_r, dIt, dItA, oRng1_r, oRng2_r, oRng3_r, oSortI_r, fSortSet, dIndexV, fListRg, kInside, dOrI, isL_d, isL_l, isL_t, oMaxT_r, o3_r, oRevL_r, oIsB_r, oNotB_r, oZipA_l, oZipA_t, oZipM_r, oZipN_r, oZip3_r, oLcm_r, oAddS_r, oIxStr_r, oLenS_r, oInDT_r, oMin2T_r, oMax2T_r, oGeT_r, dCallLo, kDisp4, oEnL_r, oEnT_r, oStr_r, keyD, onK, onDic, dDGet, dDIn, slotDic, dDGetV, dDInV, dDPut, dKr, dAsgK, kNew, kZip, oListDic_r, oLenDic_r,
  slotLst, slotSeq, dLenV, dIxV, dInV, oRevT_r, dExt, dPopAt, oMaxD_r, oMinD_r, oMax_r, oMin_r, dCBK, dRaise, dLenSet, fLc2, kDc, dNotT, cD, oRepr_r, atI_0, atI_1, atI_2, atI_3, atI_m1, cut_1, oEqD, oNeD,
  List.map_cons, List.map_nil, List.length_cons, List.length_nil, List.replicate, List.cons_append, List.nil_append, List.getElem?_cons_zero, List.getElem?_cons_succ, List.set_cons_zero, List.set_cons_succ, Nat.reduceAdd, Nat.reduceSub, Nat.reduceLeDiff, Nat.zero_le, if_true, if_false, reduceIte, Bool.false_eq_true, Bool.not_true, Bool.not_false, decide_true, decide_false, ite_true, ite_false, true_and, and_true, decide_eq_true_eq])
local macro_rules | `(tactic| walk_at "dm") => `(tactic| simp only [inD_nil, inD_ss, List.all_cons, List.all_nil, flatD_s, flatD_i, Bool.and_self, Bool.and_true, ofStr_eq, String.reduceEq, decide_false, decide_true, Bool.or_false, Bool.false_or, Bool.true_or, Bool.or_true, true_and, Bool.false_eq_true, if_true, if_false, reduceIte, forL_nil, forL_cons, lcL_nil, lcL_cons])
local macro_rules | `(tactic| walk_at "dd") => `(tactic| repeat (first | walk_at "d" | walk_at "dm"))

/-! ### parts, words -/
def Sd : Say → D
  | .unk x => .tup [.str "unknown", .str x]
  | .yes => .tup [.str "yes"]
  | .no => .tup [.str "no"]
  | .not a => .tup [.str "not", Sd a]
  | .bin k a b => .tup [.str k.str, Sd a, Sd b]
def dParts : SpP := fun ds k _ => ∃ s : Say, ds = [Sd s] ∧ k (.tup (s.kids.map Sd))
theorem mk6_unk' (k : Mk6) : (k.str = Str.ofString "unknown") = False := by
  cases k <;> simp only [Mk6.str, ofStr_eq, String.reduceEq]
theorem mk6_yes' (k : Mk6) : (k.str = Str.ofString "yes") = False := by
  cases k <;> simp only [Mk6.str, ofStr_eq, String.reduceEq]
theorem mk6_no' (k : Mk6) : (k.str = Str.ofString "no") = False := by
  cases k <;> simp only [Mk6.str, ofStr_eq, String.reduceEq]
theorem mk6_not' (k : Mk6) : (k.str = Str.ofString "not") = False := by
  cases k <;> simp only [Mk6.str, ofStr_eq, String.reduceEq]
section
variable {P : Program} {w : World} {K : PySem.W.Frag} {mg : Str → Option Value} {base : Heap}
theorem sc_parts_of : FnScope ["word"] ["word"] (defScope s_parts_of) := ⟨rfl, rfl, rfl, by decide +kernel, rfl, by decide +kernel, by decide +kernel⟩
theorem ok_parts_of (T : Txt P K mg) {k : Nat} : FnOk P w K mg base CX0 (k + 1) T.f_parts_of T.d_parts_of ["word"] (spPu K dParts) := by
  refine T.F_parts_of.ok sc_parts_of (fun vs H Q E h => spPu_len (by rintro _ _ _ ⟨s, rfl, hk⟩; rfl) h) (fun cdv A outer s H vs Q E hr h => ?_)
  refine ⟨_, (pss_one (ps_ret (pe_ifExp (pt_cmpR op_eq (pe_ix (ix_tupK K) (pv 0) pe_int (fun _ _ => rfl)) pe_str (by rfl)) (pe_tup pa_nil) (pe_slice (sl_tupAK K) (pv 0) (po_some pe_int) po_none)))), ?_⟩
  try dsimp only [L2.cxOf, L2.Cx.nox]
  refine' enterP h (fun S mo => ?sim) ?go
  (case sim => walk_at "sim")
  rintro ds kt kx ⟨s, rfl, hk⟩
  cases s
  all_goals simp only [Sd, Say.kids] at hk ⊢
  all_goals walk_at "d"
  all_goals first | exact hk | (simp only [mk6_unk', if_false]; exact hk)
def dAll : SpP := fun ds k _ => ∃ s : Say, ds = [Sd s] ∧ s.words ≤ 100000 ∧ k (.lst (s.all.map Sd))
theorem sc_all_words : FnScope ["saying", "found", "waiting", "word"] ["saying"] (defScope s_all_words) := ⟨rfl, rfl, rfl, by decide +kernel, rfl, by decide +kernel, by decide +kernel⟩
theorem ok_all_words (T : Txt P K mg) {k : Nat} : FnOk P w K mg base CX0 (k + 2) T.f_all_words T.d_all_words ["saying"] (spPu K dAll) := by
  refine T.F_all_words.ok sc_all_words (fun vs H Q E h => spPu_len (by rintro _ _ _ ⟨s, rfl, hw, hk⟩; rfl) h) (fun cdv A outer s H vs Q E hr h => ?_)
  have mark2 : OwnMark 2 := ⟨⟩
  have mark1 : OwnMark 1 := ⟨⟩
  refine ⟨_, (pss_cons (ps_set (i := 1) sc_all_words.nd rfl (Or.inl rfl) (pe_lst pa_nil))
    (pss_cons (ps_set (i := 2) sc_all_words.nd rfl (Or.inl rfl) (pe_lst (pa_cons (pv 0) pa_nil)))
    (pss_cons (ps_while PassesOwn.never (pt_truth (pv 2) (by intro _; rfl)) (pss_cons (ps_set (i := 3) sc_all_words.nd rfl (Or.inl rfl) (pe_bm0 PySem.F.plainAttrs_list PySem.F.slot_list_pop PySem.F.type_list_pop mt_pop (pv 2)))
    (pss_cons (ps_expr (pe_bm PySem.F.plainAttrs_list PySem.F.slot_list_append PySem.F.type_list_append mt_append (pv 1) (pa_cons (pv 3) pa_nil)))
    (pss_one (ps_expr (pe_bm PySem.F.plainAttrs_list PySem.F.slot_list_extend PySem.F.type_list_extend (extUK K) (pv 2) (pa_cons (pe_revT (pe_call (ok_parts_of T) hr (by rfl) T.g_parts_of T.F_parts_of.kp T.b_parts_of .nil pass0 (pa_cons (pv 3) pa_nil))) pa_nil)))))))
    (pss_one (ps_ret (pv 1)))))), ?_⟩
  try dsimp only [L2.cxOf, L2.Cx.nox]
  refine' enterP h (fun S mo => ?sim) ?go
  (case sim => walk_at "sim")
  rintro ds kt kx ⟨s, rfl, hw, hk⟩
  walk_at "d"
  refine dwhile (fun m e => ∃ (dn st : List Say) (y : Slo), e = ⟨0, [.d (Sd s), .l (dn.map Sd), .l (st.map Sd).reverse, y]⟩ ∧ dn ++ allL st = s.all ∧ m = wsum st) s.words ⟨[], [s], .u, rfl, by show s.all ++ [] = _; simp, by show _ = s.words + 0; simp⟩ ?_
  rintro m e ⟨dn, st, y, rfl, h1, rfl⟩
  walk_at "d"
  cases st with
  | nil =>
    obtain rfl : dn = s.all := by rw [← h1]; exact (List.append_nil _).symm
    simpa using hk
  | cons t ts =>
    have e1 : (!((t :: ts).map Sd).reverse.isEmpty) = true := by simp
    rw [e1, if_pos rfl]
    have many : dn.length + wsum (t :: ts) = s.words := by rw [← allL_len, ← List.length_append, h1, all_len]
    have l3 := len_wsum ts
    have l4 := kids_le t
    have wt : wsum (t :: ts) = t.words + wsum ts := rfl
    refine ⟨(ts.map Sd).reverse, Sd t, by simp, ?_, t, rfl, ?_, ?_⟩
    · simp only [List.length_map]; omega
    · simp only [List.length_map, List.length_reverse]; omega
    · refine ⟨wsum (t.kids ++ ts), ?_, dn ++ [t], t.kids ++ ts, .d (Sd t), by simp, ?_, rfl⟩
      · rw [wsum_append, wt, words_kids t]; omega
      · rw [← h1, allL_append]
        show dn ++ [t] ++ (allL t.kids ++ allL ts) = dn ++ (t.all ++ allL ts)
        rw [all_kids t]
        simp
end

/-! ### the unknowns of several -/
def addW (f : List Str) : Say → List Str
  | .unk x => if x ∈ f then f else f ++ [x]
  | _ => f
theorem fold_addW : ∀ (s : Say) (f : List Str), s.all.foldl addW f = s.namesIn f
  | .unk x, f => rfl
  | .yes, f => rfl
  | .no, f => rfl
  | .not a, f => fold_addW a f
  | .bin k a b, f => by
    show (a.all ++ b.all).foldl addW f = b.namesIn (a.namesIn f)
    rw [List.foldl_append, fold_addW a, fold_addW b]
def dnm (f : List Str) : List (Key × D) := f.map fun x => (.inr x, .bl true)
theorem any_names (f : List Str) (x : Str) : ((dnm f).any fun kv => decide (kv.1 = .inr x)) = decide (x ∈ f) := by
  unfold dnm
  rw [List.any_map]
  induction f with
  | nil => rfl
  | cons y r ih =>
    rw [List.any_cons, ih]
    show (decide ((Sum.inr y : Key) = .inr x) || decide (x ∈ r)) = decide (x ∈ y :: r)
    by_cases c : x = y
    · subst c
      simp
    · have c' : ¬ (Sum.inr y : Key) = .inr x := fun z => c (Sum.inr.inj z).symm
      rw [decide_eq_false c', Bool.false_or]
      simp [c]
theorem put_nm (f : List Str) (x : Str) : putD (dnm f) (.inr x) (.bl true) = dnm (addW f (.unk x)) := by
  unfold putD
  rw [any_names]
  show _ = dnm (if x ∈ f then f else f ++ [x])
  by_cases c : x ∈ f
  · rw [decide_eq_true c, if_pos rfl, if_pos c]
    unfold dnm
    rw [List.map_map]
    refine List.map_congr_left fun y _ => ?_
    show (if (Sum.inr y : Key) = .inr x then (Sum.inr y, D.bl true) else (Sum.inr y, D.bl true)) = (Sum.inr y, D.bl true)
    split <;> rfl
  · rw [decide_eq_false c, if_neg c, if_neg (by decide)]
    unfold dnm
    rw [List.map_append]
    rfl
theorem addW_len (s : Say) (f : List Str) : (addW f s).length ≤ f.length + 1 := by
  cases s with
  | unk x =>
    show (if x ∈ f then f else f ++ [x]).length ≤ f.length + 1
    split
    · omega
    · simp
  | _ => exact Nat.le_succ _
theorem foldW_len (l : List Say) : ∀ f, (l.foldl addW f).length ≤ f.length + l.length := by
  induction l with
  | nil => intro f; exact Nat.le_refl _
  | cons x r ih =>
    intro f
    have h1 := ih (addW f x)
    have h2 := addW_len x f
    show (r.foldl addW (addW f x)).length ≤ f.length + (r.length + 1)
    omega
theorem keys_nm (f : List Str) : (dnm f).map (fun kv => dK kv.1) = f.map D.str := by
  unfold dnm
  rw [List.map_map]
  rfl
theorem head_Sd (s : Say) : ∃ r, Sd s = .tup (.str s.head :: r) := by
  cases s <;> exact ⟨_, rfl⟩
theorem wsum_mem {ss : List Say} {s : Say} (h : s ∈ ss) : s.words ≤ wsum ss := by
  induction ss with
  | nil => cases h
  | cons t r ih =>
    show s.words ≤ t.words + wsum r
    rcases List.mem_cons.mp h with rfl | h
    · omega
    · have := ih h
      omega
def dUnks : SpP := fun ds k _ => ∃ ss : List Say, ds = [.tup (ss.map Sd)] ∧ wsum ss ≤ 100000 ∧ k (.tup ((foldNames ss []).map D.str))
section
variable {P : Program} {w : World} {K : PySem.W.Frag} {mg : Str → Option Value} {base : Heap}
theorem sc_unknowns_of : FnScope ["sayings", "found", "saying", "word"] ["sayings"] (defScope s_unknowns_of) := ⟨rfl, rfl, rfl, by decide +kernel, rfl, by decide +kernel, by decide +kernel⟩
theorem ok_unknowns_of (T : Txt P K mg) {k : Nat} : FnOk P w K mg base CX0 (k + 3) T.f_unknowns_of T.d_unknowns_of ["sayings"] (spPu K dUnks) := by
  refine T.F_unknowns_of.ok sc_unknowns_of (fun vs H Q E h => spPu_len (by rintro _ _ _ ⟨ss, rfl, hw, hk⟩; rfl) h) (fun cdv A outer s H vs Q E hr h => ?_)
  have mark1 : DicMark 1 := ⟨⟩
  refine ⟨_, (pss_cons (ps_set (i := 1) sc_unknowns_of.nd rfl (Or.inl rfl) pe_dnewK)
    (pss_cons (ps_for PassesOwn.never rfl (pi_tup (pv 0)) (pg_name (i := 2) sc_unknowns_of.nd rfl (Or.inl rfl)) (pss_one (ps_for PassesOwn.never rfl (pi_list (pe_call (ok_all_words T) hr (by rfl) T.g_all_words T.F_all_words.kp T.b_all_words .nil pass0 (pa_cons (pv 2) pa_nil))) (pg_name (i := 3) sc_unknowns_of.nd rfl (Or.inl rfl)) (pss_one (ps_if (pt_cmpR op_eq (pe_ix (ix_tupK K) (pv 3) pe_int (fun _ _ => rfl)) pe_str (by rfl)) (pss_one (ps_dput (hu_of hr) (pv 1) (pe_ix (ix_tupK K) (pv 3) pe_int (fun _ _ => rfl)) pe_bl rfl)) pss_nil)))))
    (pss_one (ps_ret (pe_callTy (tuple_ofK K) (by rfl) T.z_tuple (by decide +kernel) (pa_cons (pe_callTy (call_list_dK rfl) (by rfl) T.z_list (by decide +kernel) (pa_cons (pv 1) pa_nil)) pa_nil)))))), ?_⟩
  try dsimp only [L2.cxOf, L2.Cx.nox]
  refine' enterP h (fun S mo => ?sim) ?go
  (case sim => walk_at "sim")
  rintro ds kt kx ⟨ss, rfl, hw, hk⟩
  walk_at "d"
  refine dforM Sd (fun l e => ∃ (y1 y2 : Slo), e = ⟨0, [.d (.tup (ss.map Sd)), .k (dnm (foldNames l [])), y1, y2]⟩) ⟨.u, .u, rfl⟩ ?_ ?_
  · rintro e ⟨y1, y2, rfl⟩
    walk_at "d"
    rw [keys_nm]
    exact hk
  · rintro l s r e N h1 ⟨y1, y2, rfl⟩ hN
    walk_at "d"
    have hs : s.words ≤ 100000 := Nat.le_trans (wsum_mem (ss := ss) (by rw [h1]; simp)) hw
    have hl : (foldNames l []).length + s.words ≤ 100000 := by
      have h4 := fold_len l []
      have h5 : wsum ss = wsum l + (s.words + wsum r) := by rw [h1, wsum_append]; rfl
      rw [List.length_nil] at h4
      omega
    refine ⟨s, rfl, hs, ?_⟩
    walk_at "d"
    refine dforM Sd (fun a e => ∃ (y2 : Slo), e = ⟨0, [.d (.tup (ss.map Sd)), .k (dnm (a.foldl addW (foldNames l []))), .d (Sd s), y2]⟩) ⟨y2, rfl⟩ ?_ ?_
    · rintro e ⟨y2, rfl⟩
      refine hN _ ⟨.d (Sd s), y2, ?_⟩
      rw [fold_addW]
      have : foldNames (l ++ [s]) [] = s.namesIn (foldNames l []) := by unfold foldNames; rw [List.foldl_append]; rfl
      rw [this]
    · rintro a t b e N2 g1 ⟨y2, rfl⟩ hN2
      have next : N2 ⟨0, [.d (.tup (ss.map Sd)), .k (dnm (addW (a.foldl addW (foldNames l [])) t)), .d (Sd s), .d (Sd t)]⟩ := hN2 _ ⟨.d (Sd t), by rw [List.foldl_append]; rfl⟩
      have hb := foldW_len a (foldNames l [])
      have ha : a.length ≤ s.words := by rw [← all_len, g1]; simp
      cases t
      all_goals simp only [Sd]
      all_goals walk_at "d"
      all_goals first | exact next | (simp only [mk6_unk', if_false]; exact next) | (refine ⟨by unfold dnm; rw [List.length_map]; omega, ?_⟩; rw [put_nm]; exact next)
end

/-! ### dicts with other keys each -/
theorem merge_new {kvs : List (Key × D)} (h : (kvs.map Prod.fst).Nodup) : ∀ {acc : List (Key × D)}, (∀ p ∈ kvs, ∀ q ∈ acc, q.1 ≠ p.1) → mergeD acc kvs = acc ++ kvs := by
  induction kvs with
  | nil => intro acc _; exact (List.append_nil _).symm
  | cons p r ih =>
    intro acc ha
    rw [List.map_cons, List.nodup_cons] at h
    have e1 : putD acc p.1 p.2 = acc ++ [p] := by
      unfold putD
      rw [if_neg]
      intro z
      obtain ⟨q, h1, h2⟩ := List.any_eq_true.mp z
      exact ha p List.mem_cons_self q h1 (of_decide_eq_true h2)
    show mergeD (putD acc p.1 p.2) r = _
    rw [e1, ih h.2, List.append_assoc]
    · rfl
    intro p' hp' q hq
    rcases List.mem_append.mp hq with hq | hq
    · exact ha p' (List.mem_cons_of_mem _ hp') q hq
    · obtain rfl := List.mem_singleton.mp hq
      intro z
      exact h.1 (z ▸ List.mem_map_of_mem hp')
theorem val_mem {kvs : List (Key × D)} {key : Key} {v : D} (h : (kvs.map Prod.fst).Nodup) (hm : (key, v) ∈ kvs) : valD kvs key = some v := by
  induction kvs with
  | nil => cases hm
  | cons p r ih =>
    rw [List.map_cons, List.nodup_cons] at h
    unfold valD
    rw [List.find?_cons]
    rcases List.mem_cons.mp hm with rfl | hm
    · simp
    · have : decide (p.1 = key) = false := decide_eq_false fun z => h.1 (z ▸ List.mem_map_of_mem hm)
      rw [this]
      exact ih h.2 hm
/-- a dict of names and what stands beside them -/
theorem zip_dict {α : Type} {ns : List Str} {vs : List α} (nd : ns.Nodup) (hl : vs.length = ns.length) (F : α → D) :
    mergeD [] ((ns.zip vs).map fun p => ((Sum.inr p.1 : Key), F p.2)) = ((ns.zip vs).map fun p => ((Sum.inr p.1 : Key), F p.2)) ∧
    ∀ x ∈ ns, ∀ d : α, valD ((ns.zip vs).map fun p => ((Sum.inr p.1 : Key), F p.2)) (.inr x) = some (F (vs.getD (ns.idxOf x) d)) := by
  have nk : (((ns.zip vs).map fun p => ((Sum.inr p.1 : Key), F p.2)).map Prod.fst).Nodup := by
    rw [List.map_map]
    have e : (ns.zip vs).map (Prod.fst ∘ fun p => ((Sum.inr p.1 : Key), F p.2)) = ns.map Sum.inr := by
      have : (Prod.fst ∘ fun p : Str × α => ((Sum.inr p.1 : Key), F p.2)) = Sum.inr ∘ Prod.fst := rfl
      rw [this, ← List.map_map, List.map_fst_zip (by omega)]
    rw [e]
    exact nd.map _ fun a b hne z => hne (Sum.inr.inj z)
  refine ⟨by rw [merge_new nk (acc := []) (fun _ _ q hq => nomatch hq), List.nil_append], fun x hx d => val_mem nk ?_⟩
  have hi : ns.idxOf x < ns.length := List.idxOf_lt_length_of_mem hx
  refine List.mem_map.mpr ⟨(x, vs.getD (ns.idxOf x) d), ?_, rfl⟩
  rw [List.mem_iff_getElem]
  refine ⟨ns.idxOf x, by rw [List.length_zip]; omega, ?_⟩
  rw [List.getElem_zip, List.getElem_idxOf, List.getD_eq_getElem?_getD, List.getElem?_eq_getElem (by omega)]
  rfl

/-! ### what a saying gives, counted in parts of the whole -/
def vMk (W : Int) : Mk6 → Int → Int → Int
  | .plus, a, b => if a + b < W then a + b else W
  | .times, a, b => if a + b - W > 0 then a + b - W else 0
  | .leads, a, b => if W - a + b < W then W - a + b else W
  | .and, a, b => if b < a then b else a
  | .or, a, b => if b > a then b else a
  | .same, a, b => W - (if a - b < 0 then -(a - b) else a - b)
def vSay (f : Str → Int) (W : Int) : Say → Int
  | .unk x => f x
  | .yes => W
  | .no => 0
  | .not a => W - vSay f W a
  | .bin k a b => vMk W k (vSay f W a) (vSay f W b)
theorem vMk_in (k : Mk6) {W a b : Int} (a0 : 0 ≤ a) (a1 : a ≤ W) (b0 : 0 ≤ b) (b1 : b ≤ W) : 0 ≤ vMk W k a b ∧ vMk W k a b ≤ W := by
  cases k <;> simp only [vMk] <;> split <;> omega
theorem vSay_in {f : Str → Int} {W : Int} (w0 : 0 ≤ W) : ∀ s : Say, (∀ x ∈ s.leaves, 0 ≤ f x ∧ f x ≤ W) → 0 ≤ vSay f W s ∧ vSay f W s ≤ W
  | .unk x, h => h x (List.mem_singleton.mpr rfl)
  | .yes, _ => ⟨w0, Int.le_refl _⟩
  | .no, _ => ⟨Int.le_refl _, w0⟩
  | .not a, h => by
    have := vSay_in w0 a h
    show 0 ≤ W - vSay f W a ∧ W - vSay f W a ≤ W
    omega
  | .bin k a b, h => by
    obtain ⟨a0, a1⟩ := vSay_in w0 a fun x m => h x (List.mem_append_left _ m)
    obtain ⟨b0, b1⟩ := vSay_in w0 b fun x m => h x (List.mem_append_right _ m)
    exact vMk_in k a0 a1 b0 b1
theorem ite_mul {t x y u v : Int} (ht : 0 < t) : (if t * x < t * y then t * u else t * v) = t * (if x < y then u else v) := by
  by_cases c : x < y
  · rw [if_pos c, if_pos (Int.mul_lt_mul_of_pos_left c ht)]
  · rw [if_neg c, if_neg fun z => c (Int.lt_of_mul_lt_mul_left z (Int.le_of_lt ht))]
theorem vMk_mul {t : Int} (ht : 0 < t) (k : Mk6) (W a b : Int) : vMk (t * W) k (t * a) (t * b) = t * vMk W k a b := by
  cases k <;> simp only [vMk]
  · rw [← Int.mul_add, ite_mul ht]
  · rw [← Int.mul_add, ← Int.mul_sub]
    have := ite_mul (t := t) (x := 0) (y := a + b - W) (u := a + b - W) (v := 0) ht
    rw [Int.mul_zero] at this
    exact this
  · rw [← Int.mul_sub, ← Int.mul_add, ite_mul ht]
  · rw [ite_mul ht]
  · show (if t * a < t * b then t * b else t * a) = t * (if a < b then b else a)
    rw [ite_mul ht]
  · have := ite_mul (t := t) (x := a - b) (y := 0) (u := -(a - b)) (v := a - b) ht
    rw [Int.mul_zero] at this
    rw [← Int.mul_sub, ← Int.mul_neg, this, ← Int.mul_sub]
theorem vSay_mul {t : Int} (ht : 0 < t) (f : Str → Int) (W : Int) : ∀ s : Say, vSay (fun x => t * f x) (t * W) s = t * vSay f W s
  | .unk x => rfl
  | .yes => rfl
  | .no => (Int.mul_zero t).symm
  | .not a => by
    show t * W - vSay (fun x => t * f x) (t * W) a = t * (W - vSay f W a)
    rw [vSay_mul ht f W a, Int.mul_sub]
  | .bin k a b => by
    show vMk (t * W) k _ _ = t * vMk W k _ _
    rw [vSay_mul ht f W a, vSay_mul ht f W b, vMk_mul ht]
theorem vSay_congr {f g : Str → Int} (W : Int) : ∀ s : Say, (∀ x ∈ s.leaves, f x = g x) → vSay f W s = vSay g W s
  | .unk x, h => h x (List.mem_singleton.mpr rfl)
  | .yes, _ => rfl
  | .no, _ => rfl
  | .not a, h => by
    show W - _ = W - _
    rw [vSay_congr W a h]
  | .bin k a b, h => by
    show vMk W k _ _ = vMk W k _ _
    rw [vSay_congr W a fun x m => h x (List.mem_append_left _ m), vSay_congr W b fun x m => h x (List.mem_append_right _ m)]
/-! ### fractions -/
def Pd (p : Int × Int) : D := .tup [.int p.1, .int p.2]
def lowD (a b : Int) : D := Pd (a / (Int.gcd a b : Int), b / (Int.gcd a b : Int))
def lcmF (c : Nat) (ps : List (Int × Int)) : Nat := ps.foldl (fun c p => Nat.lcm c p.2.natAbs) c
def lcmP (ps : List (Int × Int)) : Nat := lcmF 1 ps
theorem lcmF_dvd : ∀ (ps : List (Int × Int)) (c : Nat), c ∣ lcmF c ps ∧ ∀ p ∈ ps, p.2.natAbs ∣ lcmF c ps
  | [], c => ⟨Nat.dvd_refl c, fun p h => nomatch h⟩
  | q :: r, c => by
    obtain ⟨h1, h2⟩ := lcmF_dvd r (Nat.lcm c q.2.natAbs)
    refine ⟨Nat.dvd_trans (Nat.dvd_lcm_left _ _) h1, fun p hp => ?_⟩
    rcases List.mem_cons.mp hp with rfl | hp
    · exact Nat.dvd_trans (Nat.dvd_lcm_right _ _) h1
    · exact h2 p hp
theorem lcmF_pos : ∀ (ps : List (Int × Int)) (c : Nat), 0 < c → (∀ p ∈ ps, 0 < p.2) → 0 < lcmF c ps
  | [], c, h, _ => h
  | q :: r, c, h, hp => lcmF_pos r _ (Nat.lcm_pos h (by have := hp q List.mem_cons_self; omega)) fun p m => hp p (List.mem_cons_of_mem _ m)
theorem lcmF_of : ∀ (ps : List (Int × Int)) (c W : Nat), c ∣ W → (∀ p ∈ ps, p.2.natAbs ∣ W) → lcmF c ps ∣ W
  | [], c, W, h, _ => h
  | q :: r, c, W, h, hp => lcmF_of r _ W (Nat.lcm_dvd h (hp q List.mem_cons_self)) fun p m => hp p (List.mem_cons_of_mem _ m)
def wide (b : Int) : Prop := b.natAbs < 2 ^ 9000
theorem wide_of {b : Int} (h : b.natAbs < 2 ^ 64) : wide b := Nat.lt_of_lt_of_le h (Nat.pow_le_pow_right (by decide) (by decide))
theorem wide_log {b : Int} (h : wide b) : b.natAbs.log2 < 9000 := by
  by_cases c : b.natAbs = 0
  · rw [c]; decide
  · exact (Nat.log2_lt c).mpr h
theorem low_in {a b : Int} (h0 : 0 ≤ a) (h1 : a ≤ b) (hb : 0 < b) : 0 ≤ a / (Int.gcd a b : Int) ∧ a / (Int.gcd a b : Int) ≤ b / (Int.gcd a b : Int) :=
  ⟨Int.ediv_nonneg h0 (Int.natCast_nonneg _), Int.ediv_le_ediv (by have := Int.gcd_pos_of_ne_zero_right a (by omega : b ≠ 0); omega) h1⟩
theorem low_mul {a b t : Int} (ht : 0 < t) : lowD (a * t) (b * t) = lowD a b := by
  unfold lowD
  have e : (Int.gcd (a * t) (b * t) : Int) = (Int.gcd a b : Int) * t := by
    rw [Int.gcd_mul_right, Int.natCast_mul]
    congr 1
    omega
  rw [e, Int.mul_ediv_mul_of_pos_left _ _ ht, Int.mul_ediv_mul_of_pos_left _ _ ht]
/-- one value, one pair in lowest terms -/
theorem low_same {a b c d : Int} (hb : 0 < b) (hd : 0 < d) (h : a * d = c * b) : lowD a b = lowD c d := by
  rw [← low_mul (a := a) (b := b) hd, ← low_mul (a := c) (b := d) hb, h, Int.mul_comm b d]

/-! ### the names of sayings -/
theorem depth_words : ∀ s : Say, s.depth < s.words
  | .unk x => Nat.zero_lt_one
  | .yes => Nat.zero_lt_one
  | .no => Nat.zero_lt_one
  | .not a => Nat.succ_lt_succ (depth_words a)
  | .bin k a b => by
    have h1 := depth_words a
    have h2 := depth_words b
    show max a.depth b.depth + 1 < a.words + b.words + 1
    omega
theorem namesIn_nodup : ∀ (s : Say) (f : List Str), f.Nodup → (s.namesIn f).Nodup
  | .unk x, f, h => by
    show (if x ∈ f then f else f ++ [x]).Nodup
    by_cases c : x ∈ f
    · rw [if_pos c]; exact h
    · rw [if_neg c]
      exact List.nodup_append.mpr ⟨h, by simp, fun a ha b hb e => c (by rw [← List.mem_singleton.mp hb, ← e]; exact ha)⟩
  | .yes, f, h => h
  | .no, f, h => h
  | .not a, f, h => namesIn_nodup a f h
  | .bin k a b, f, h => namesIn_nodup b _ (namesIn_nodup a f h)
theorem names_nodup (s : Say) : (s.namesIn []).Nodup := namesIn_nodup s [] List.nodup_nil
theorem namesIn_sub : ∀ (s : Say) (f : List Str), ∀ x, (x ∈ f ∨ x ∈ s.leaves) → x ∈ s.namesIn f
  | .unk y, f, x, h => by
    show x ∈ (if y ∈ f then f else f ++ [y])
    by_cases c : y ∈ f
    · rw [if_pos c]
      rcases h with h | h
      · exact h
      · rw [List.mem_singleton.mp h]; exact c
    · rw [if_neg c]
      rcases h with h | h
      · exact List.mem_append_left _ h
      · exact List.mem_append_right _ h
  | .yes, f, x, h => h.elim (fun h => h) fun h => nomatch h
  | .no, f, x, h => h.elim (fun h => h) fun h => nomatch h
  | .not a, f, x, h => namesIn_sub a f x h
  | .bin k a b, f, x, h => by
    refine namesIn_sub b _ x ?_
    rcases h with h | h
    · exact .inl (namesIn_sub a f x (.inl h))
    · rcases List.mem_append.mp h with h | h
      · exact .inl (namesIn_sub a f x (.inr h))
      · exact .inr h
theorem names_leaves (s : Say) (x : Str) (h : x ∈ s.leaves) : x ∈ s.namesIn [] := namesIn_sub s [] x (.inr h)
theorem namesIn_from : ∀ (s : Say) (f : List Str), ∀ x ∈ s.namesIn f, x ∈ f ∨ x ∈ s.leaves
  | .unk y, f, x, h => by
    have h : x ∈ (if y ∈ f then f else f ++ [y]) := h
    by_cases c : y ∈ f
    · rw [if_pos c] at h; exact .inl h
    · rw [if_neg c] at h
      exact List.mem_append.mp h
  | .yes, f, x, h => .inl h
  | .no, f, x, h => .inl h
  | .not a, f, x, h => namesIn_from a f x h
  | .bin k a b, f, x, h => by
    rcases namesIn_from b _ x h with h | h
    · rcases namesIn_from a f x h with h | h
      · exact .inl h
      · exact .inr (List.mem_append_left _ h)
    · exact .inr (List.mem_append_right _ h)
theorem nodup_len : ∀ (l m : List Str), l.Nodup → (∀ x ∈ l, x ∈ m) → l.length ≤ m.length
  | [], m, _, _ => Nat.zero_le _
  | x :: r, m, h, q => by
    rw [List.nodup_cons] at h
    have hx := q x List.mem_cons_self
    have h1 := nodup_len r (m.erase x) h.2 fun y hy => (List.mem_erase_of_ne (fun z => h.1 (by rw [← z]; exact hy))).mpr (q y (List.mem_cons_of_mem _ hy))
    rw [List.length_erase_of_mem hx] at h1
    have := List.length_pos_of_mem hx
    show r.length + 1 ≤ _
    omega
theorem keysD_str (f : List Str) : keysD (f.map D.str) = some (f.map Sum.inr) := by
  induction f with
  | nil => rfl
  | cons x r ih =>
    rw [List.map_cons, List.map_cons]
    unfold keysD
    rw [ih]
    rfl
theorem fold_nodup : ∀ (ss : List Say) (f : List Str), f.Nodup → (foldNames ss f).Nodup
  | [], f, h => h
  | s :: r, f, h => fold_nodup r _ (namesIn_nodup s f h)
theorem fold_sub : ∀ (ss : List Say) (f : List Str) (x : Str), (x ∈ f ∨ ∃ s ∈ ss, x ∈ s.leaves) → x ∈ foldNames ss f
  | [], f, x, h => h.elim id (fun ⟨_, h, _⟩ => nomatch h)
  | s :: r, f, x, h => fold_sub r _ x (by
      rcases h with h | ⟨t, h1, h2⟩
      · exact .inl (namesIn_sub s f x (.inl h))
      · rcases List.mem_cons.mp h1 with rfl | h1
        · exact .inl (namesIn_sub t f x (.inr h2))
        · exact .inr ⟨t, h1, h2⟩)
theorem fold_from : ∀ (ss : List Say) (f : List Str) (x : Str), x ∈ foldNames ss f → x ∈ f ∨ ∃ s ∈ ss, x ∈ s.leaves
  | [], f, x, h => .inl h
  | s :: r, f, x, h => by
    rcases fold_from r _ x h with h | ⟨t, h1, h2⟩
    · rcases namesIn_from s f x h with h | h
      · exact .inl h
      · exact .inr ⟨s, List.mem_cons_self, h⟩
    · exact .inr ⟨t, List.mem_cons_of_mem _ h1, h2⟩

/-! ### no plus, at most four unknowns -/
def isPlus : Say → Bool
  | .bin .plus _ _ => true
  | _ => false
def hasPlus (s : Say) : Bool := s.all.any isPlus
def dMeant (C : Addr) : SpP := fun ds k kx => ∃ ss : List Say, ds = [.tup (ss.map Sd)] ∧ (∀ s ∈ ss, s.words ≤ 100000) ∧ (if ss.any hasPlus = true then kx C "mark" (.str "plus") else k .non)
theorem head_plus (s : Say) : (s.head = Str.ofString "plus") = (isPlus s = true) := by
  cases s with
  | bin k a b => cases k <;> simp [Say.head, Mk6.str, isPlus, ofStr_eq]
  | _ => simp [Say.head, isPlus, ofStr_eq]
section
variable {P : Program} {w : World} {K : PySem.W.Frag} {mg : Str → Option Value} {base : Heap}
theorem sc_WrongMark_init : SupScope ["self", "mark"] ["self", "mark"] (defScope s_WrongMark_init) := ⟨rfl, rfl, rfl, by decide +kernel, rfl, by decide +kernel, by decide +kernel, by decide +kernel, rfl, rfl⟩
theorem ok_WrongMark_init (T : Txt P K mg) {k : Nat} : FnOk P w K mg base CX0 (k + 1) T.f_WrongMark_init T.d_WrongMark_init ["self", "mark"] (spInitX T.C_WrongMark "mark") := by
  refine sup_ok T.F_WrongMark_init sc_WrongMark_init T.o_WrongMark T.S_WrongMark T.z_super (fun vs H Q E h => ?_) rfl rfl rfl rfl (fun cc cda A outer s H vs Q E h => ?_)
  · obtain ⟨a, v, rfl, _⟩ := h
    rfl
  obtain ⟨a, v, rfl, e, q⟩ := h
  refine ⟨a, _, _, _, rfl, e, pa_cons pe_str pa_nil, pss_one (ps_ost (pv 0) (pv 1)), ?_, rfl, rfl, rfl, rfl, rfl⟩
  walk_at "rd"
  refine ⟨by show 1 ≤ 1000; decide, e, ?_⟩
  refine rd_ost ?_
  walk_at "rd"
  exact ⟨a, T.C_WrongMark, rfl, T.o_WrongMark, T.n_WrongMark_mark, .inl ⟨e, fun dx nd ne => q dx nd ne⟩⟩
theorem sc_TooMany_init : SupScope ["self", "what"] ["self", "what"] (defScope s_TooMany_init) := ⟨rfl, rfl, rfl, by decide +kernel, rfl, by decide +kernel, by decide +kernel, by decide +kernel, rfl, rfl⟩
theorem ok_TooMany_init (T : Txt P K mg) {k : Nat} : FnOk P w K mg base CX0 (k + 1) T.f_TooMany_init T.d_TooMany_init ["self", "what"] (spInitX T.C_TooMany "what") := by
  refine sup_ok T.F_TooMany_init sc_TooMany_init T.o_TooMany T.S_TooMany T.z_super (fun vs H Q E h => ?_) rfl rfl rfl rfl (fun cc cda A outer s H vs Q E h => ?_)
  · obtain ⟨a, v, rfl, _⟩ := h
    rfl
  obtain ⟨a, v, rfl, e, q⟩ := h
  refine ⟨a, _, _, _, rfl, e, pa_cons pe_str pa_nil, pss_one (ps_ost (pv 0) (pv 1)), ?_, rfl, rfl, rfl, rfl, rfl⟩
  walk_at "rd"
  refine ⟨by show 1 ≤ 1000; decide, e, ?_⟩
  refine rd_ost ?_
  walk_at "rd"
  exact ⟨a, T.C_TooMany, rfl, T.o_TooMany, T.n_TooMany_what, .inl ⟨e, fun dx nd ne => q dx nd ne⟩⟩
theorem sc_check_meant : FnScope ["sayings", "saying", "word"] ["sayings"] (defScope s_check_meant) := ⟨rfl, rfl, rfl, by decide +kernel, rfl, by decide +kernel, by decide +kernel⟩
theorem ok_check_meant (T : Txt P K mg) {k : Nat} : FnOk P w K mg base (L2.CX P w) (k + 4) T.f_check_meant T.d_check_meant ["sayings"] (spPu K (dMeant T.C_WrongMark)) := by
  refine T.F_check_meant.okX sc_check_meant (fun vs H Q E h => spPu_len (by rintro _ _ _ ⟨ss, rfl, hw, hk⟩; rfl) h) (fun cdv A outer s H vs Q E hr h => ?_)
  refine ⟨_, (pss_one (ps_for (passes_of rfl) rfl (pi_tup (pv 0)) (pg_name (i := 1) sc_check_meant.nd rfl (Or.inl rfl)) (pss_one (ps_if (pt_val (pe_callB (anyK K) (by rfl) T.z_any (by decide +kernel) (pa_cons (pe_lc (own := [("word", 2)]) (g := (gName 2)) rfl sc_check_meant.nd (pi_list (pe_call (ok_all_words T) hr (by rfl) T.g_all_words T.F_all_words.kp T.b_all_words .nil pass0 (pa_cons (pv 1) pa_nil))) (blkOk_by (N := ["sayings", "saying", "word"]) (sc := defScope s_check_meant) (by decide +kernel)) (fun _ _ _ _ _ => (pg_name (i := 2) sc_check_meant.nd rfl (Or.inl rfl))) (fun _ _ _ _ _ => pts_nil) (fun _ _ _ _ _ => (pe_cmpR op_eq (pe_ix (ix_tupK K) (pv 2) pe_int (fun _ _ => rfl)) pe_str (by rfl)))) pa_nil))) (pss_one (ps_raise rfl (takes_of rfl rfl rfl rfl) (pmk_oex T.o_WrongMark T.i_WrongMark T.t_WrongMark (ok_WrongMark_init T) hr T.b_WrongMark_init .nil pass0 (by rfl) T.m_WrongMark (pa_cons pe_str pa_nil)))) pss_nil)))), ?_⟩
  try dsimp only [L2.cxOf, L2.Cx.nox]
  refine' enterP h (fun S mo => ?sim) ?go
  (case sim => walk_at "sim")
  rintro ds kt kx ⟨ss, rfl, hw, hk⟩
  walk_at "d"
  refine dforM Sd (fun l e => (∃ (y1 y2 : Slo), e = ⟨0, [.d (.tup (ss.map Sd)), y1, y2]⟩) ∧ l.any hasPlus = false) ⟨⟨.u, .u, rfl⟩, rfl⟩ ?_ ?_
  · rintro e ⟨⟨y1, y2, rfl⟩, hp⟩
    rw [hp, if_neg Bool.false_ne_true] at hk
    exact hk
  · rintro l s r e N h1 ⟨⟨y1, y2, rfl⟩, hp⟩ hN
    walk_at "d"
    refine ⟨s, rfl, hw s (by rw [h1]; simp), ?_⟩
    walk_at "d"
    refine dlcMM Sd (fun t => .bl (isPlus t)) (fun t ht K hK => ?_) ?_
    · obtain ⟨r, er⟩ := head_Sd t
      rw [er]
      walk_at "d"
      simp only [head_plus, Bool.decide_eq_true]
      exact hK _ rfl
    · walk_at "d"
      refine ⟨_, blsD_map _ _, ?_⟩
      have e1 : (s.all.map isPlus).any id = hasPlus s := by rw [List.any_map]; rfl
      rw [e1]
      cases c : hasPlus s with
      | true =>
        rw [if_pos rfl]
        rw [if_pos (by rw [h1]; simp [c])] at hk
        exact hk
      | false =>
        rw [if_neg Bool.false_ne_true]
        exact hN _ ⟨⟨_, _, rfl⟩, by simp [hp, c]⟩
def dOrder (C D' : Addr) : SpP := fun ds k kx => ∃ ss : List Say, ds = [.tup (ss.map Sd)] ∧ wsum ss ≤ 100000 ∧ (if ss.any hasPlus = true then kx C "mark" (.str "plus") else if (foldNames ss []).length > 4 then kx D' "what" (.str "unknowns") else k .non)
theorem sc_check_order : FnScope ["sayings"] ["sayings"] (defScope s_check_order) := ⟨rfl, rfl, rfl, by decide +kernel, rfl, by decide +kernel, by decide +kernel⟩
theorem ok_check_order (T : Txt P K mg) {k : Nat} : FnOk P w K mg base (L2.CX P w) (k + 6) T.f_check_order T.d_check_order ["sayings"] (spPu K (dOrder T.C_WrongMark T.C_TooMany)) := by
  refine T.F_check_order.okX sc_check_order (fun vs H Q E h => spPu_len (by rintro _ _ _ ⟨ss, rfl, hw, hk⟩; rfl) h) (fun cdv A outer s H vs Q E hr h => ?_)
  refine ⟨_, (pss_cons (ps_expr (pe_call (ok_check_meant T) hr (by rfl) T.g_check_meant T.F_check_meant.kp T.b_check_meant .nil (passes_call (takes_of rfl rfl rfl rfl) fun _ _ _ _ h => h) (pa_cons (pv 0) pa_nil)))
    (pss_one (ps_if (pt_cmpR op_gt (pe_callB (len_seqK K) (by rfl) T.z_len (by decide +kernel) (pa_cons (pe_call (ok_unknowns_of T) hr (by rfl) T.g_unknowns_of T.F_unknowns_of.kp T.b_unknowns_of .nil pass0 (pa_cons (pv 0) pa_nil)) pa_nil)) (pe_glob rfl T.c_MOST_UNKNOWNS T.r_MOST_UNKNOWNS) (by rfl)) (pss_one (ps_raise rfl (takes_of rfl rfl rfl rfl) (pmk_oex T.o_TooMany T.i_TooMany T.t_TooMany (ok_TooMany_init T) hr T.b_TooMany_init .nil pass0 (by rfl) T.m_TooMany (pa_cons pe_str pa_nil)))) pss_nil))), ?_⟩
  try dsimp only [L2.cxOf, L2.Cx.nox]
  refine' enterP h (fun S mo => ?sim) ?go
  (case sim => walk_at "sim")
  rintro ds kt kx ⟨ss, rfl, hw, hk⟩
  walk_at "d"
  refine ⟨ss, rfl, fun s hs => Nat.le_trans (wsum_mem hs) hw, ?_⟩
  by_cases hp : ss.any hasPlus = true
  · rw [if_pos hp] at hk ⊢
    exact hk
  · rw [if_neg hp] at hk ⊢
    refine ⟨ss, rfl, hw, ?_⟩
    walk_at "d"
    rw [List.length_map]
    by_cases c : (foldNames ss []).length > 4
    · rw [if_pos c] at hk
      rw [if_pos (by omega)]
      exact hk
    · rw [if_neg c] at hk
      rw [if_neg (by omega)]
      exact hk
end

/-! ### levels -/
def oMk (top : Int) : Mk6 → Int → Int → Int
  | .or, a, b => if a > b then a else b
  | .leads, a, b => if a ≤ b then top else b
  | .same, a, b => if a = b then top else if b < a then b else a
  | _, a, b => if a < b then a else b
def oSay (f : Str → Int) (top : Int) : Say → Int
  | .unk x => f x
  | .yes => top
  | .no => 0
  | .not a => if oSay f top a = 0 then top else 0
  | .bin k a b => oMk top k (oSay f top a) (oSay f top b)
def dGivenN : SpP := fun ds k _ => ∃ (kd : Mk6) (xs ys : List Int) (top : Int), ds = [.str kd.str, .lst (xs.map .int), .lst (ys.map .int), .int top] ∧ k (.lst ((xs.zip ys).map fun p => .int (oMk top kd p.1 p.2)))
def colF (cols : Str → List Int) (j : Nat) : Str → Int := fun x => (cols x).getD j 0
def rowO (cols : Str → List Int) (n : Nat) (top : Int) (s : Say) : List Int := (List.range n).map fun j => oSay (colF cols j) top s
def dONum (m : Nat) : SpP := fun ds k _ => ∃ (s : Say) (kvs : List (Key × D)) (cols : Str → List Int) (n : Nat) (top : Int), ds = [Sd s, .dic kvs, .int top, .int (n : Int)] ∧ s.depth < m ∧ n ≤ 100000 ∧
  (∀ x ∈ s.leaves, valD kvs (.inr x) = some (.lst ((cols x).map .int)) ∧ (cols x).length = n) ∧ k (.lst ((rowO cols n top s).map .int))
theorem row_len (cols : Str → List Int) (n : Nat) (top : Int) (s : Say) : (rowO cols n top s).length = n := by
  unfold rowO
  rw [List.length_map, List.length_range]
theorem zip_row (cols : Str → List Int) (n : Nat) (top : Int) (k : Mk6) (a b : Say) : ((rowO cols n top a).zip (rowO cols n top b)).map (fun p => D.int (oMk top k p.1 p.2)) = (rowO cols n top (.bin k a b)).map D.int := by
  unfold rowO
  rw [List.zip_map', List.map_map, List.map_map]
  rfl
theorem rep_map (n : Nat) (v : D) : (List.replicate n [v]).flatten = (List.range n).map fun _ => v := by
  rw [List.map_const', List.length_range]
  induction n with
  | zero => rfl
  | succ n ih =>
    rw [List.replicate_succ, List.flatten_cons, ih]
    rfl
section
variable {P : Program} {w : World} {K : PySem.W.Frag} {mg : Str → Option Value} {base : Heap}
theorem sc_given_numbers : FnScope ["mark", "firsts", "seconds", "top", "a", "b"] ["mark", "firsts", "seconds", "top"] (defScope s_given_numbers) := ⟨rfl, rfl, rfl, by decide +kernel, rfl, by decide +kernel, by decide +kernel⟩
theorem ok_given_numbers (T : Txt P K mg) {k : Nat} : FnOk P w K mg base CX0 (k + 1) T.f_given_numbers T.d_given_numbers ["mark", "firsts", "seconds", "top"] (spPu K dGivenN) := by
  refine T.F_given_numbers.ok sc_given_numbers (fun vs H Q E h => spPu_len (by rintro _ _ _ ⟨kd, xs, ys, top, rfl, hk⟩; rfl) h) (fun cdv A outer s H vs Q E hr h => ?_)
  refine ⟨_, (pss_cons (ps_if (pt_cmpR op_eq (pv 0) pe_str (by rfl)) (pss_one (ps_ret (pe_lc (own := [("a", 4), ("b", 5)]) (g := (gTup K 2 (gCons (gName 4) (gCons (gName 5) gNil)))) rfl sc_given_numbers.nd (RZ.pi_zipA (by rfl) T.z_zip (pa_cons (pv 1) (pa_cons (pv 2) pa_nil))) (blkOk_by (N := ["mark", "firsts", "seconds", "top", "a", "b"]) (sc := defScope s_given_numbers) (by decide +kernel)) (fun _ _ _ _ _ => (pg_tup rfl (pgs_cons (pg_name (i := 4) sc_given_numbers.nd rfl (Or.inl rfl)) (pgs_cons (pg_name (i := 5) sc_given_numbers.nd rfl (Or.inl rfl)) pgs_nil)))) (fun _ _ _ _ _ => pts_nil) (fun _ _ _ _ _ => (pe_ifExp (pt_cmpR op_gt (pv 4) (pv 5) (by rfl)) (pv 4) (pv 5)))))) pss_nil)
    (pss_cons (ps_if (pt_cmpR op_eq (pv 0) pe_str (by rfl)) (pss_one (ps_ret (pe_lc (own := [("a", 4), ("b", 5)]) (g := (gTup K 2 (gCons (gName 4) (gCons (gName 5) gNil)))) rfl sc_given_numbers.nd (RZ.pi_zipA (by rfl) T.z_zip (pa_cons (pv 1) (pa_cons (pv 2) pa_nil))) (blkOk_by (N := ["mark", "firsts", "seconds", "top", "a", "b"]) (sc := defScope s_given_numbers) (by decide +kernel)) (fun _ _ _ _ _ => (pg_tup rfl (pgs_cons (pg_name (i := 4) sc_given_numbers.nd rfl (Or.inl rfl)) (pgs_cons (pg_name (i := 5) sc_given_numbers.nd rfl (Or.inl rfl)) pgs_nil)))) (fun _ _ _ _ _ => pts_nil) (fun _ _ _ _ _ => (pe_ifExp (pt_cmpR op_le (pv 4) (pv 5) (by rfl)) (pv 3) (pv 5)))))) pss_nil)
    (pss_cons (ps_if (pt_cmpR op_eq (pv 0) pe_str (by rfl)) (pss_one (ps_ret (pe_lc (own := [("a", 4), ("b", 5)]) (g := (gTup K 2 (gCons (gName 4) (gCons (gName 5) gNil)))) rfl sc_given_numbers.nd (RZ.pi_zipA (by rfl) T.z_zip (pa_cons (pv 1) (pa_cons (pv 2) pa_nil))) (blkOk_by (N := ["mark", "firsts", "seconds", "top", "a", "b"]) (sc := defScope s_given_numbers) (by decide +kernel)) (fun _ _ _ _ _ => (pg_tup rfl (pgs_cons (pg_name (i := 4) sc_given_numbers.nd rfl (Or.inl rfl)) (pgs_cons (pg_name (i := 5) sc_given_numbers.nd rfl (Or.inl rfl)) pgs_nil)))) (fun _ _ _ _ _ => pts_nil) (fun _ _ _ _ _ => (pe_ifExp (pt_cmpR op_eq (pv 4) (pv 5) (by rfl)) (pv 3) (pe_callB (call_min2 rfl) (by rfl) T.z_min (by decide +kernel) (pa_cons (pv 4) (pa_cons (pv 5) pa_nil)))))))) pss_nil)
    (pss_one (ps_ret (pe_lc (own := [("a", 4), ("b", 5)]) (g := (gTup K 2 (gCons (gName 4) (gCons (gName 5) gNil)))) rfl sc_given_numbers.nd (RZ.pi_zipA (by rfl) T.z_zip (pa_cons (pv 1) (pa_cons (pv 2) pa_nil))) (blkOk_by (N := ["mark", "firsts", "seconds", "top", "a", "b"]) (sc := defScope s_given_numbers) (by decide +kernel)) (fun _ _ _ _ _ => (pg_tup rfl (pgs_cons (pg_name (i := 4) sc_given_numbers.nd rfl (Or.inl rfl)) (pgs_cons (pg_name (i := 5) sc_given_numbers.nd rfl (Or.inl rfl)) pgs_nil)))) (fun _ _ _ _ _ => pts_nil) (fun _ _ _ _ _ => (pe_ifExp (pt_cmpR op_lt (pv 4) (pv 5) (by rfl)) (pv 4) (pv 5))))))))), ?_⟩
  try dsimp only [L2.cxOf, L2.Cx.nox]
  refine' enterP h (fun S mo => ?sim) ?go
  (case sim => walk_at "sim")
  rintro ds kt kx ⟨kd, xs, ys, top, rfl, hk⟩
  cases kd
  all_goals simp only [Mk6.str]
  all_goals walk_at "d"
  all_goals rw [zipD_map]
  all_goals refine dlcMM _ _ (fun p hp K hK => ?_) hk
  all_goals walk_at "d"
  all_goals simp only [oMk] at hK
  all_goals (split <;> (rename_i c; simp only [c, if_true, if_false] at hK; exact hK _ rfl))
theorem sc_order_numbers : FnScope ["saying", "columns", "top", "size", "kind", "first", "number"] ["saying", "columns", "top", "size"] (defScope s_order_numbers) := ⟨rfl, rfl, rfl, by decide +kernel, rfl, by decide +kernel, by decide +kernel⟩
theorem ok_order_numbers_n (T : Txt P K mg) {k : Nat} : ∀ n : Nat, FnOk P w K mg base CX0 (k + n + 1) T.f_order_numbers T.d_order_numbers ["saying", "columns", "top", "size"] (spPu K (dONum n))
  | 0 => by
    have no : ∀ vs H Q E, ¬ (spPu K (dONum 0)) vs H Q E := fun vs H Q E h => by
      obtain ⟨S, mo, ds, k, kx, _, _, hk, _⟩ := h
      obtain ⟨s, kvs, cols, n2, top, _, hd, hn, hf, hk⟩ := hk
      omega
    exact ⟨fun vs H Q E h => absurd h (no vs H Q E), fun A outer s H args us vs Q E _ _ _ _ h => absurd h (no vs H Q E)⟩
  | n + 1 => by
    have ih := ok_order_numbers_n T (k := k) n
    refine T.F_order_numbers.ok sc_order_numbers (fun vs H Q E h => spPu_len (by rintro _ _ _ ⟨s, kvs, cols, n2, top, rfl, hd, hn, hf, hk⟩; rfl) h) (fun cdv A outer s H vs Q E hr h => ?_)
    refine ⟨_, (pss_cons (ps_set (i := 4) sc_order_numbers.nd rfl (Or.inl rfl) (pe_ix (ix_tupK K) (pv 0) pe_int (fun _ _ => rfl)))
    (pss_cons (ps_if (pt_cmpR op_eq (pv 4) pe_str (by rfl)) (pss_one (ps_ret (pe_dget (hu_of hr) (pv 1) (pe_ix (ix_tupK K) (pv 0) pe_int (fun _ _ => rfl)) (fun _ _ => rfl)))) pss_nil)
    (pss_cons (ps_if (PW.pt (pw_or (pt_cmpR op_eq (pv 4) pe_str (by rfl)) (pw_or1 (pt_cmpR op_eq (pv 4) pe_str (by rfl))))) (pss_one (ps_ret (pe_op op_rep (pe_lst (pa_cons (pe_ifExp (pt_cmpR op_eq (pv 4) pe_str (by rfl)) (pv 2) pe_int) pa_nil)) (pv 3)))) pss_nil)
    (pss_cons (ps_set (i := 5) sc_order_numbers.nd rfl (Or.inl rfl) (pe_call ih hr (by rfl) T.g_order_numbers T.F_order_numbers.kp T.b_order_numbers .nil pass0 (pa_cons (pe_ix (ix_tupK K) (pv 0) pe_int (fun _ _ => rfl)) (pa_cons (pv 1) (pa_cons (pv 2) (pa_cons (pv 3) pa_nil))))))
    (pss_cons (ps_if (pt_cmpR op_eq (pv 4) pe_str (by rfl)) (pss_one (ps_ret (pe_lc (own := [("number", 6)]) (g := (gName 6)) rfl sc_order_numbers.nd (pi_list (pv 5)) (blkOk_by (N := ["saying", "columns", "top", "size", "kind", "first", "number"]) (sc := defScope s_order_numbers) (by decide +kernel)) (fun _ _ _ _ _ => (pg_name (i := 6) sc_order_numbers.nd rfl (Or.inl rfl))) (fun _ _ _ _ _ => pts_nil) (fun _ _ _ _ _ => (pe_ifExp (pt_cmpR op_eq (pv 6) pe_int (by rfl)) (pv 2) pe_int))))) pss_nil)
    (pss_one (ps_ret (pe_call (ok_given_numbers T) hr (by rfl) T.g_given_numbers T.F_given_numbers.kp T.b_given_numbers .nil pass0 (pa_cons (pv 4) (pa_cons (pv 5) (pa_cons (pe_call ih hr (by rfl) T.g_order_numbers T.F_order_numbers.kp T.b_order_numbers .nil pass0 (pa_cons (pe_ix (ix_tupK K) (pv 0) pe_int (fun _ _ => rfl)) (pa_cons (pv 1) (pa_cons (pv 2) (pa_cons (pv 3) pa_nil))))) (pa_cons (pv 2) pa_nil)))))))))))), ?_⟩
    try dsimp only [L2.cxOf, L2.Cx.nox]
    refine' enterP h (fun S mo => ?sim) ?go
    (case sim => walk_at "sim")
    rintro ds kt kx ⟨s, kvs, cols, n2, top, rfl, hd, hn, hf, hk⟩
    cases s with
    | unk x =>
      obtain ⟨h1, h2⟩ := hf x (List.mem_singleton.mpr rfl)
      have e : rowO cols n2 top (.unk x) = cols x := by
        unfold rowO
        rw [← h2]
        refine List.ext_getElem (by rw [List.length_map, List.length_range]) fun i h1 h2 => ?_
        rw [List.getElem_map, List.getElem_range]
        show (cols x).getD i 0 = _
        rw [List.getD_eq_getElem?_getD, List.getElem?_eq_getElem h2]
        rfl
      rw [e] at hk
      simp only [Sd]
      walk_at "d"
      rw [h1]
      walk_at "d"
      exact hk
    | yes =>
      simp only [Sd]
      walk_at "d"
      simp only [Int.toNat_natCast, rep_map]
      refine ⟨by omega, by omega, by omega, ?_⟩
      unfold rowO at hk
      rw [List.map_map] at hk
      exact hk
    | no =>
      simp only [Sd]
      walk_at "d"
      simp only [Int.toNat_natCast, rep_map]
      refine ⟨by omega, by omega, by omega, ?_⟩
      unfold rowO at hk
      rw [List.map_map] at hk
      exact hk
    | not a =>
      simp only [Sd]
      walk_at "d"
      refine ⟨a, kvs, cols, n2, top, rfl, Nat.lt_of_succ_lt_succ hd, hn, hf, ?_⟩
      walk_at "d"
      unfold rowO at hk ⊢
      rw [List.map_map] at hk ⊢
      refine dlcMM _ _ (fun j hj K hK => ?_) hk
      simp only [Function.comp] at hK ⊢
      walk_at "d"
      simp only [oSay] at hK
      split <;> (rename_i c; simp only [c, if_true, if_false] at hK; exact hK _ rfl)
    | bin kd a b =>
      have da : max a.depth b.depth + 1 < n + 1 := hd
      simp only [Sd]
      walk_at "d"
      simp only [mk6_unk', mk6_yes', mk6_no', mk6_not', if_false]
      refine ⟨a, kvs, cols, n2, top, rfl, by omega, hn, fun x m => hf x (List.mem_append_left _ m), ?_⟩
      walk_at "d"
      refine ⟨b, kvs, cols, n2, top, rfl, by omega, hn, fun x m => hf x (List.mem_append_right _ m), ?_⟩
      walk_at "d"
      refine ⟨kd, _, _, top, rfl, ?_⟩
      walk_at "d"
      rw [zip_row]
      exact hk
theorem ok_order_numbers (T : Txt P K mg) {k : Nat} : FnOk P w K mg base CX0 (k + 100 + 1) T.f_order_numbers T.d_order_numbers ["saying", "columns", "top", "size"] (spPu K (dONum 100)) := ok_order_numbers_n T (k := k) 100
end

/-! ### order types -/
def maxZ (ns : List Int) : Int := ns.max?.getD 0
theorem maxZ_of {ns : List Int} {m : Int} (h1 : m ∈ ns) (h2 : ∀ y, y ∈ ns → y ≤ m) : maxZ ns = m := by
  unfold maxZ
  rw [List.max?_eq_some_iff.mpr ⟨h1, h2⟩]
  rfl
def blocksP (r : List Int) : Int := maxZ (r.filter fun l => decide (l ≤ (r.length : Int)))
def hasAll (r : List Int) : Bool := ((List.range ((blocksP r - 1).toNat)).map fun (i : Nat) => decide ((1 + (i : Int)) ∈ r)).all id
def rowsO (c : Nat) : Nat → List (List Int)
  | 0 => [[]]
  | j + 1 => (rowsO c j).flatMap fun r => (List.range (c + 2)).map fun (l : Nat) => r ++ [(l : Int)]
def typesP (c : Nat) : List (List Int) := (rowsO c c).filter hasAll
def Rd (r : List Int) : D := .tup (r.map .int)
def small (r : List Int) : Prop := r.length ≤ 10 ∧ ∀ l ∈ r, 0 ≤ l ∧ l ≤ 10
theorem blocks_small {r : List Int} (h : small r) : 0 ≤ blocksP r ∧ blocksP r ≤ 10 := by
  unfold blocksP maxZ
  cases e : (r.filter fun l => decide (l ≤ (r.length : Int))).max? with
  | none => exact ⟨Int.le_refl _, by decide⟩
  | some m =>
    have := (List.mem_filter.mp (List.max?_mem e)).1
    exact h.2 m this
def dBlocks : SpP := fun ds k _ => ∃ r : List Int, ds = [Rd r] ∧ k (.int (blocksP r))
def dHasAll : SpP := fun ds k _ => ∃ r : List Int, ds = [Rd r] ∧ small r ∧ k (.bl (hasAll r))
def dTypes : SpP := fun ds k _ => ∃ c : Nat, ds = [.int (c : Int)] ∧ c ≤ 4 ∧ k (.tup ((typesP c).map Rd))
theorem rows_small (c : Nat) (hc : c ≤ 4) : ∀ (j : Nat), j ≤ c → ∀ r ∈ rowsO c j, r.length = j ∧ ∀ l ∈ r, 0 ≤ l ∧ l ≤ 10
  | 0, _, r, h => by
    obtain rfl := List.mem_singleton.mp h
    exact ⟨rfl, fun l h => nomatch h⟩
  | j + 1, hj, r, h => by
    obtain ⟨r', h1, h2⟩ := List.mem_flatMap.mp h
    obtain ⟨l, h3, rfl⟩ := List.mem_map.mp h2
    obtain ⟨h4, h5⟩ := rows_small c hc j (by omega) r' h1
    have := List.mem_range.mp h3
    refine ⟨by rw [List.length_append, h4]; rfl, fun z hz => ?_⟩
    rcases List.mem_append.mp hz with hz | hz
    · exact h5 z hz
    · obtain rfl := List.mem_singleton.mp hz
      omega
theorem rows_len (c : Nat) : ∀ j, (rowsO c j).length = (c + 2) ^ j
  | 0 => rfl
  | j + 1 => by
    show ((rowsO c j).flatMap fun r => (List.range (c + 2)).map fun (l : Nat) => r ++ [(l : Int)]).length = _
    rw [List.length_flatMap, Nat.pow_succ]
    simp only [List.length_map, List.length_range]
    rw [List.map_const', List.sum_replicate_nat, rows_len c j]
section
variable {P : Program} {w : World} {K : PySem.W.Frag} {mg : Str → Option Value} {base : Heap}
theorem sc_blocks_of : FnScope ["kind", "level"] ["kind"] (defScope s_blocks_of) := ⟨rfl, rfl, rfl, by decide +kernel, rfl, by decide +kernel, by decide +kernel⟩
theorem ok_blocks_of (T : Txt P K mg) {k : Nat} : FnOk P w K mg base CX0 (k + 1) T.f_blocks_of T.d_blocks_of ["kind"] (spPu K dBlocks) := by
  refine T.F_blocks_of.ok sc_blocks_of (fun vs H Q E h => spPu_len (by rintro _ _ _ ⟨r, rfl, hk⟩; rfl) h) (fun cdv A outer s H vs Q E hr h => ?_)
  refine ⟨_, (pss_one (ps_ret (pe_callBK (cr_maxD rfl) (by rfl) T.z_max (by decide +kernel) (pa_cons (pe_lc (own := [("level", 1)]) (g := (gName 1)) rfl sc_blocks_of.nd (pi_tup (pv 0)) (blkOk_by (N := ["kind", "level"]) (sc := defScope s_blocks_of) (by decide +kernel)) (fun _ _ _ _ _ => (pg_name (i := 1) sc_blocks_of.nd rfl (Or.inl rfl))) (fun _ _ _ _ _ => (pts_one (pt_cmpR op_le (pv 1) (pe_callB (len_seqK K) (by rfl) T.z_len (by decide +kernel) (pa_cons (pv 0) pa_nil)) (by rfl)))) (fun _ _ _ _ _ => (pv 1))) pa_nil) (pk_cons pe_int pk_nil)))), ?_⟩
  try dsimp only [L2.cxOf, L2.Cx.nox]
  refine' enterP h (fun S mo => ?sim) ?go
  (case sim => walk_at "sim")
  rintro ds kt kx ⟨r, rfl, hk⟩
  unfold Rd at *
  walk_at "d"
  refine dlcFM D.int D.int (fun l => decide (l ≤ (r.length : Int))) (fun l hl K K' hK => ?_) ?_
  · walk_at "d"
    split
    · rename_i c
      exact (hK _ rfl).1 (decide_eq_true (by rw [List.length_map] at c; exact c))
    · rename_i c
      exact (hK _ rfl).2 (decide_eq_false (by rw [List.length_map] at c; exact c))
  · refine ⟨_, intsD_map _, fun z => ?_, fun m h1 h2 => ?_⟩
    · have e : blocksP r = 0 := by unfold blocksP; rw [z]; rfl
      rw [e] at hk
      exact hk
    · rw [← maxZ_of h1 h2]
      exact hk
theorem sc_has_all_levels : FnScope ["levels", "level"] ["levels"] (defScope s_has_all_levels) := ⟨rfl, rfl, rfl, by decide +kernel, rfl, by decide +kernel, by decide +kernel⟩
theorem ok_has_all_levels (T : Txt P K mg) {k : Nat} : FnOk P w K mg base CX0 (k + 2) T.f_has_all_levels T.d_has_all_levels ["levels"] (spPu K dHasAll) := by
  refine T.F_has_all_levels.ok sc_has_all_levels (fun vs H Q E h => spPu_len (by rintro _ _ _ ⟨r, rfl, hr', hk⟩; rfl) h) (fun cdv A outer s H vs Q E hr h => ?_)
  refine ⟨_, (pss_one (ps_ret (pe_callB (allK K) (by rfl) T.z_all (by decide +kernel) (pa_cons (pe_lc (own := [("level", 1)]) (g := (gName 1)) rfl sc_has_all_levels.nd (pi_range2 rfl T.z_range (pa_cons pe_int (pa_cons (pe_call (ok_blocks_of T) hr (by rfl) T.g_blocks_of T.F_blocks_of.kp T.b_blocks_of .nil pass0 (pa_cons (pv 0) pa_nil)) pa_nil))) (blkOk_by (N := ["levels", "level"]) (sc := defScope s_has_all_levels) (by decide +kernel)) (fun _ _ _ _ _ => (pg_name (i := 1) sc_has_all_levels.nd rfl (Or.inl rfl))) (fun _ _ _ _ _ => pts_nil) (fun _ _ _ _ _ => (pe_cmpR (in_seqK K) (pv 1) (pv 0) (by rfl)))) pa_nil)))), ?_⟩
  try dsimp only [L2.cxOf, L2.Cx.nox]
  refine' enterP h (fun S mo => ?sim) ?go
  (case sim => walk_at "sim")
  rintro ds kt kx ⟨r, rfl, hr', hk⟩
  obtain ⟨b1, b2⟩ := blocks_small hr'
  walk_at "d"
  refine ⟨r, rfl, ?_⟩
  walk_at "d"
  refine ⟨by omega, by omega, by omega, by omega, by omega, ?_⟩
  unfold rangeD
  refine dlcMM _ (fun (i : Nat) => D.bl (decide ((1 + (i : Int)) ∈ r))) (fun l hl K hK => ?_) ?_
  · unfold Rd at *
    walk_at "d"
    refine ⟨all_flat (fun _ => rfl) r, ?_⟩
    rw [inD_int]
    exact hK _ rfl
  · exact ⟨_, blsD_map _ _, hk⟩
theorem sc_order_types : FnScope ["count", "found", "_", "levels", "level"] ["count"] (defScope s_order_types) := ⟨rfl, rfl, rfl, by decide +kernel, rfl, by decide +kernel, by decide +kernel⟩
theorem ok_order_types (T : Txt P K mg) {k : Nat} : FnOk P w K mg base CX0 (k + 3) T.f_order_types T.d_order_types ["count"] (spPu K dTypes) := by
  refine T.F_order_types.ok sc_order_types (fun vs H Q E h => spPu_len (by rintro _ _ _ ⟨c, rfl, hc, hk⟩; rfl) h) (fun cdv A outer s H vs Q E hr h => ?_)
  refine ⟨_, (pss_cons (ps_set (i := 1) sc_order_types.nd rfl (Or.inl rfl) (pe_lst (pa_cons (pe_tup pa_nil) pa_nil)))
    (pss_cons (ps_for PassesOwn.never rfl (pi_range1 rfl T.z_range (pa_cons (pv 0) pa_nil)) (pg_name (i := 2) sc_order_types.nd rfl (Or.inl rfl)) (pss_one (ps_setLc2 (i := 1) (own := [("levels", 3), ("level", 4)]) (vs1 := [4]) (g := (gName 3)) (g1 := (gName 4)) rfl sc_order_types.nd rfl rfl (sw_true rfl rfl rfl (by decide +kernel)) (pi_list (pv 1)) (blkOk_by (N := ["count", "found", "_", "levels", "level"]) (sc := defScope s_order_types) (by decide +kernel)) (by decide) (fun _ _ _ _ _ => (pg_name (i := 3) sc_order_types.nd rfl (Or.inl rfl))) (fun _ _ _ _ _ => pts_nil) (fun _ _ _ _ _ => (pi_range1 rfl T.z_range (pa_cons (pe_op op_add (pv 0) pe_int) pa_nil))) (fun _ _ _ _ _ => (pg_name (i := 4) sc_order_types.nd rfl (Or.inl rfl))) (fun _ _ _ _ _ => pts_nil) (fun _ _ _ _ _ => (pe_op (op_catAK K) (pv 3) (pe_tup (pa_cons (pv 4) pa_nil)))))))
    (pss_one (ps_ret (pe_callTy (tuple_ofK K) (by rfl) T.z_tuple (by decide +kernel) (pa_cons (pe_lc (own := [("levels", 3)]) (g := (gName 3)) rfl sc_order_types.nd (pi_list (pv 1)) (blkOk_by (N := ["count", "found", "_", "levels", "level"]) (sc := defScope s_order_types) (by decide +kernel)) (fun _ _ _ _ _ => (pg_name (i := 3) sc_order_types.nd rfl (Or.inl rfl))) (fun _ _ _ _ _ => (pts_one (pt_val (pe_call (ok_has_all_levels T) hr (by rfl) T.g_has_all_levels T.F_has_all_levels.kp T.b_has_all_levels .nil pass0 (pa_cons (pv 3) pa_nil))))) (fun _ _ _ _ _ => (pv 3))) pa_nil)))))), ?_⟩
  try dsimp only [L2.cxOf, L2.Cx.nox]
  refine' enterP h (fun S mo => ?sim) ?go
  (case sim => walk_at "sim")
  rintro ds kt kx ⟨c, rfl, hc, hk⟩
  walk_at "d"
  refine ⟨by omega, by omega, ?_⟩
  simp only [range0]
  refine dforM _ (fun l e => ∃ y1 y2 y3 : Slo, e = ⟨0, [.d (.int (c : Int)), .d (.lst ((rowsO c l.length).map Rd)), y1, y2, y3]⟩) ⟨_, _, _, rfl⟩ ?_ ?_
  · rintro e ⟨y1, y2, y3, rfl⟩
    walk_at "d"
    refine dlcFM Rd Rd hasAll (fun q hq K K' hK => ?_) ?_
    · have hq' : q ∈ rowsO c c := by
        have := hq
        simp only [List.length_range, Int.toNat_natCast] at this
        exact this
      obtain ⟨r1, r2⟩ := rows_small c hc c (Nat.le_refl _) q hq'
      walk_at "d"
      refine ⟨q, rfl, ⟨by omega, r2⟩, ?_⟩
      walk_at "d"
      cases ca : hasAll q with
      | true => exact iteT ((hK _ rfl).1 ca)
      | false => exact iteF ((hK _ rfl).2 ca)
    · simp only [List.length_range, Int.toNat_natCast]
      exact hk
  · rintro l i r e N h1 ⟨y1, y2, y3, rfl⟩ hN
    walk_at "d"
    have hl : l.length < c := by
      have := congrArg List.length h1
      simp only [List.length_range, Int.toNat_natCast, List.length_append, List.length_cons] at this
      omega
    refine dlc2MM (m := fun _ => List.range (c + 2)) Rd (fun (i : Nat) => D.int (i : Int)) (fun q i => Rd (q ++ [(i : Int)])) (fun q => ⟨0, [.d (.int (c : Int)), .d (.lst ((rowsO c l.length).map Rd)), .d (.int (i : Int)), .d (Rd q), .u]⟩) (fun q hq K hK => ?_) (fun q hq z hz K hK => ?_) (fun q hq => rfl) ?_ ?_
    · walk_at "d"
      simp only [range0]
      refine ⟨by omega, by omega, ?_⟩
      have e1 : ((c : Int) + 2).toNat = c + 2 := by omega
      rw [e1]
      exact hK
    · obtain ⟨r1, r2⟩ := rows_small c hc l.length (by omega) q hq
      unfold Rd at *
      walk_at "d"
      refine ⟨by rw [List.length_map]; omega, ?_⟩
      simp only [List.map_append, List.map_cons, List.map_nil] at hK
      exact hK _ rfl
    · have e1 : ((rowsO c l.length).flatMap fun q => (List.range (c + 2)).map fun (i : Nat) => Rd (q ++ [(i : Int)])) = (rowsO c (l.length + 1)).map Rd := by
        show _ = ((rowsO c l.length).flatMap fun r => (List.range (c + 2)).map fun (l : Nat) => r ++ [(l : Int)]).map Rd
        rw [List.map_flatMap]
        simp only [List.map_map]
        rfl
      rw [e1, List.length_map, rows_len]
      have h2 : (c + 2) ^ (l.length + 1) ≤ 6 ^ (l.length + 1) := Nat.pow_le_pow_left (by omega) _
      have h3 : 6 ^ (l.length + 1) ≤ 6 ^ 4 := Nat.pow_le_pow_right (by decide) (by omega)
      have h4 : (6 : Nat) ^ 4 = 1296 := by decide
      omega
    · have e1 : ((rowsO c l.length).flatMap fun q => (List.range (c + 2)).map fun (i : Nat) => Rd (q ++ [(i : Int)])) = (rowsO c (l.length + 1)).map Rd := by
        show _ = ((rowsO c l.length).flatMap fun r => (List.range (c + 2)).map fun (l : Nat) => r ++ [(l : Int)]).map Rd
        rw [List.map_flatMap]
        simp only [List.map_map]
        rfl
      rw [e1]
      walk_at "d"
      exact hN _ ⟨.d (.int (i : Int)), .u, .u, by rw [List.length_append]; rfl⟩
end

/-! ### what fails -/
def colR (names : List Str) (r : List Int) : Str → Int := fun x => r.getD (names.idxOf x) 0
def levelsP (s : Say) (names : List Str) (kinds : List (List Int)) : List Int := kinds.map fun r => oSay (colR names r) ((names.length : Int) + 1) s
def dLevels : SpP := fun ds k _ => ∃ (s : Say) (names : List Str) (kinds : List (List Int)), ds = [Sd s, .tup (names.map .str), .lst (kinds.map Rd)] ∧ s.depth < 100 ∧ names.Nodup ∧ (∀ x ∈ s.leaves, x ∈ names) ∧ (∀ r ∈ kinds, r.length = names.length) ∧
  kinds.length ≤ 2000 ∧ k (.lst ((levelsP s names kinds).map .int))
theorem zip_snd_nodup {names : List Str} (h : names.Nodup) : ((((List.range names.length).zip names).map fun p => ((Sum.inr p.2 : Key), D.non)).map Prod.fst).Nodup := by
  rw [List.map_map]
  have e : ((List.range names.length).zip names).map (Prod.fst ∘ fun p => ((Sum.inr p.2 : Key), D.non)) = names.map Sum.inr := by
    have : (Prod.fst ∘ fun p : Nat × Str => ((Sum.inr p.2 : Key), D.non)) = Sum.inr ∘ Prod.snd := rfl
    rw [this, ← List.map_map, List.map_snd_zip (by rw [List.length_range]; exact Nat.le_refl _)]
  rw [e]
  exact h.map _ fun a b hne z => hne (Sum.inr.inj z)
def failing (s : Say) : List (List Int) := (typesP (s.namesIn []).length).filter fun r => decide (oSay (colR (s.namesIn []) r) (((s.namesIn []).length : Int) + 1) s ≤ ((s.namesIn []).length : Int))
def dFailing : SpP := fun ds k _ => ∃ s : Say, ds = [Sd s] ∧ s.words ≤ 90 ∧ (s.namesIn []).length ≤ 4 ∧ k (.lst ((failing s).map Rd))
section
variable {P : Program} {w : World} {K : PySem.W.Frag} {mg : Str → Option Value} {base : Heap}
theorem atI_map {α : Type} {f : α → D} {l : List α} {i : Nat} {y : α} (h : l[i]? = some y) : atI (l.map f) (i : Int) = some (f y) := by
  refine atI_nat ?_
  rw [List.getElem?_map, h]
  rfl
theorem getD_at {r : List Int} {i : Nat} (h : i < r.length) : r[i]? = some (r.getD i 0) := by
  rw [List.getD_eq_getElem?_getD, List.getElem?_eq_getElem h]
  rfl
theorem mem_enum {names : List Str} {p : Nat × Str} (h : p ∈ (List.range names.length).zip names) : p.1 < names.length ∧ names[p.1]? = some p.2 := by
  obtain ⟨i, hi, e⟩ := List.getElem_of_mem h
  have hlt : i < names.length := by simpa using hi
  rw [List.getElem_zip, List.getElem_range] at e
  rw [← e]
  exact ⟨hlt, List.getElem?_eq_getElem hlt⟩
theorem sc_levels_at : FnScope ["saying", "names", "kinds", "columns", "place", "name", "kind"] ["saying", "names", "kinds"] (defScope s_levels_at) := ⟨rfl, rfl, rfl, by decide +kernel, rfl, by decide +kernel, by decide +kernel⟩
theorem ok_levels_at (T : Txt P K mg) {k : Nat} : FnOk P w K mg base CX0 (k + 102) T.f_levels_at T.d_levels_at ["saying", "names", "kinds"] (spPu K dLevels) := by
  refine T.F_levels_at.ok sc_levels_at (fun vs H Q E h => spPu_len (by rintro _ _ _ ⟨s, names, kinds, rfl, hd, nd, hx, hr', hl, hk⟩; rfl) h) (fun cdv A outer s H vs Q E hr h => ?_)
  refine ⟨_, (pss_cons (ps_setDc (i := 3) (own := [("place", 4), ("name", 5)]) (g := (gTup K 2 (gCons (gName 4) (gCons (gName 5) gNil)))) rfl sc_levels_at.nd rfl rfl (sw_trueD rfl rfl rfl (by decide +kernel)) (pi_enumT (by rfl) T.z_enumerate (pa_cons (pv 1) pa_nil)) (blkOk_by (N := ["saying", "names", "kinds", "columns", "place", "name", "kind"]) (sc := defScope s_levels_at) (by decide +kernel)) (fun _ _ _ _ _ => (pg_tup rfl (pgs_cons (pg_name (i := 4) sc_levels_at.nd rfl (Or.inr rfl)) (pgs_cons (pg_name (i := 5) sc_levels_at.nd rfl (Or.inl rfl)) pgs_nil)))) (fun _ _ _ _ _ => pts_nil) (fun _ _ _ _ _ => (pv 5)) (fun _ _ _ _ _ => (pe_lc (own := [("kind", 6)]) (g := (gName 6)) rfl sc_levels_at.nd (pi_listK K (pv 2)) (blkOk_by (N := ["saying", "names", "kinds", "columns", "place", "name", "kind"]) (by rfl)) (fun _ _ _ _ _ => (pg_name (i := 6) sc_levels_at.nd rfl (Or.inl rfl))) (fun _ _ _ _ _ => pts_nil) (fun _ _ _ _ _ => (pe_ix (ix_tupK K) (pv 6) (pv 4) (fun _ _ => rfl))))))
    (pss_one (ps_ret (pe_call (ok_order_numbers T) hr (by rfl) T.g_order_numbers T.F_order_numbers.kp T.b_order_numbers .nil pass0 (pa_cons (pv 0) (pa_cons (pv 3) (pa_cons (pe_op op_add (pe_callB (len_seqK K) (by rfl) T.z_len (by decide +kernel) (pa_cons (pv 1) pa_nil)) pe_int) (pa_cons (pe_callB (len_seqK K) (by rfl) T.z_len (by decide +kernel) (pa_cons (pv 2) pa_nil)) pa_nil)))))))), ?_⟩
  try dsimp only [L2.cxOf, L2.Cx.nox]
  refine' enterP h (fun S mo => ?sim) ?go
  (case sim => walk_at "sim")
  rintro ds kt kx ⟨s, names, kinds, rfl, hd, nd, hx, hr', hl, hk⟩
  walk_at "d"
  rw [enum_map]
  refine dcMM _ (fun p => .inr p.2) (fun p => .lst (kinds.map fun r => .int (r.getD p.1 0))) (fun p hp K hK => ?_) ?_
  · obtain ⟨p1, p2⟩ := mem_enum hp
    walk_at "d"
    refine dlcMM _ (fun r => .int (r.getD p.1 0)) (fun r hrk K2 hK2 => ?_) ?_
    · unfold Rd at *
      walk_at "d"
      rw [atI_map (getD_at (by rw [hr' r hrk]; exact p1))]
      exact hK2 _ rfl
    · walk_at "d"
      exact hK _ rfl
  · walk_at "d"
    have nk : ((((List.range names.length).zip names).map fun p => ((Sum.inr p.2 : Key), D.lst (kinds.map fun r => .int (r.getD p.1 0)))).map Prod.fst).Nodup := by
      have := zip_snd_nodup nd
      rw [List.map_map] at this ⊢
      exact this
    rw [merge_new nk (acc := []) (fun _ _ q hq => nomatch hq), List.nil_append]
    simp only [List.length_map]
    refine ⟨s, _, fun x => kinds.map fun r => r.getD (names.idxOf x) 0, kinds.length, _, rfl, hd, by omega, fun x hxs => ⟨?_, by rw [List.length_map]⟩, ?_⟩
    · have hxn := hx x hxs
      have hi : names.idxOf x < names.length := List.idxOf_lt_length_of_mem hxn
      refine val_mem nk (List.mem_map.mpr ⟨(names.idxOf x, x), ?_, ?_⟩)
      · rw [List.mem_iff_getElem]
        refine ⟨names.idxOf x, by simpa using hi, ?_⟩
        rw [List.getElem_zip, List.getElem_range, List.getElem_idxOf]
      · rw [List.map_map]
        rfl
    · have e : rowO (fun x => kinds.map fun r => r.getD (names.idxOf x) 0) kinds.length ((names.length : Int) + 1) s = levelsP s names kinds := by
        unfold rowO levelsP
        refine List.ext_getElem (by rw [List.length_map, List.length_map, List.length_range]) fun i h1 h2 => ?_
        rw [List.getElem_map, List.getElem_map, List.getElem_range]
        congr 1
        funext x
        unfold colF colR
        rw [List.length_map] at h2
        rw [List.getD_eq_getElem?_getD (l := kinds.map _), List.getElem?_map, List.getElem?_eq_getElem h2]
        rfl
      rw [e]
      exact hk
end

/-! ### values over data -/
def dDenom : SpP := fun ds k _ => ∃ ps : List (Int × Int), ds = [.tup (ps.map Pd)] ∧ (∀ p ∈ ps, 0 < p.2) ∧ lcmP ps < 2 ^ 64 ∧ k (.int (lcmP ps : Nat))
def dLowT : SpP := fun ds k _ => ∃ a b : Int, ds = [.int a, .int b] ∧ 0 < b ∧ wide b ∧ k (lowD a b)
def dFrac (C : Addr) : SpP := fun ds k _ => ∃ a b : Int, ds = [.int a, .int b] ∧ 0 ≤ a ∧ a ≤ b ∧ 0 < b ∧ wide b ∧ k (lowD a b)
def okP (ps : List (Int × Int)) : Prop := (∀ p ∈ ps, 0 ≤ p.1 ∧ p.1 ≤ p.2 ∧ 0 < p.2 ∧ p.2 < 1000000000) ∧ lcmP ps < 2 ^ 64
def dCheckN (C : Addr) : SpP := fun ds k kx => ∃ xs ns : List Str, ds = [.tup (xs.map .str), .tup (ns.map .str)] ∧ match xs.find? fun x => decide (x ∉ ns) with
  | some x => kx C "name" (.str x)
  | none => k .non
theorem lcmP_pos {ps : List (Int × Int)} (h : okP ps) : 0 < lcmP ps := lcmF_pos ps 1 (by decide) fun p m => (h.1 p m).2.2.1
section
variable {P : Program} {w : World} {K : PySem.W.Frag} {mg : Str → Option Value} {base : Heap}
theorem sc_OutOfRange_init : SupScope ["self", "value"] ["self", "value"] (defScope s_OutOfRange_init) := ⟨rfl, rfl, rfl, by decide +kernel, rfl, by decide +kernel, by decide +kernel, by decide +kernel, rfl, rfl⟩
theorem ok_OutOfRange_init (T : Txt P K mg) {k : Nat} : FnOk P w K mg base CX0 (k + 1) T.f_OutOfRange_init T.d_OutOfRange_init ["self", "value"] (spInitX T.C_OutOfRange "value") := by
  refine sup_ok T.F_OutOfRange_init sc_OutOfRange_init T.o_OutOfRange T.S_OutOfRange T.z_super (fun vs H Q E h => ?_) rfl rfl rfl rfl (fun cc cda A outer s H vs Q E h => ?_)
  · obtain ⟨a, v, rfl, _⟩ := h
    rfl
  obtain ⟨a, v, rfl, e, q⟩ := h
  refine ⟨a, _, _, _, rfl, e, pa_cons pe_str pa_nil, pss_one (ps_ost (pv 0) (pv 1)), ?_, rfl, rfl, rfl, rfl, rfl⟩
  walk_at "rd"
  refine ⟨by show 1 ≤ 1000; decide, e, ?_⟩
  refine rd_ost ?_
  walk_at "rd"
  exact ⟨a, T.C_OutOfRange, rfl, T.o_OutOfRange, T.n_OutOfRange_value, .inl ⟨e, fun dx nd ne => q dx nd ne⟩⟩
theorem sc_UnknownName_init : SupScope ["self", "name"] ["self", "name"] (defScope s_UnknownName_init) := ⟨rfl, rfl, rfl, by decide +kernel, rfl, by decide +kernel, by decide +kernel, by decide +kernel, rfl, rfl⟩
theorem ok_UnknownName_init (T : Txt P K mg) {k : Nat} : FnOk P w K mg base CX0 (k + 1) T.f_UnknownName_init T.d_UnknownName_init ["self", "name"] (spInitX T.C_UnknownName "name") := by
  refine sup_ok T.F_UnknownName_init sc_UnknownName_init T.o_UnknownName T.S_UnknownName T.z_super (fun vs H Q E h => ?_) rfl rfl rfl rfl (fun cc cda A outer s H vs Q E h => ?_)
  · obtain ⟨a, v, rfl, _⟩ := h
    rfl
  obtain ⟨a, v, rfl, e, q⟩ := h
  refine ⟨a, _, _, _, rfl, e, pa_cons pe_str pa_nil, pss_one (ps_ost (pv 0) (pv 1)), ?_, rfl, rfl, rfl, rfl, rfl⟩
  walk_at "rd"
  refine ⟨by show 1 ≤ 1000; decide, e, ?_⟩
  refine rd_ost ?_
  walk_at "rd"
  exact ⟨a, T.C_UnknownName, rfl, T.o_UnknownName, T.n_UnknownName_name, .inl ⟨e, fun dx nd ne => q dx nd ne⟩⟩
theorem sc_denominator_of : FnScope ["point", "common", "value"] ["point"] (defScope s_denominator_of) := ⟨rfl, rfl, rfl, by decide +kernel, rfl, by decide +kernel, by decide +kernel⟩
theorem ok_denominator_of (T : Txt P K mg) {k : Nat} : FnOk P w K mg base CX0 (k + 1) T.f_denominator_of T.d_denominator_of ["point"] (spPu K dDenom) := by
  refine T.F_denominator_of.ok sc_denominator_of (fun vs H Q E h => spPu_len (by rintro _ _ _ ⟨ps, rfl, hp, hl, hk⟩; rfl) h) (fun cdv A outer s H vs Q E hr h => ?_)
  refine ⟨_, (pss_cons (ps_set (i := 1) sc_denominator_of.nd rfl (Or.inl rfl) pe_int)
    (pss_cons (ps_for PassesOwn.never rfl (pi_tup (pv 0)) (pg_name (i := 2) sc_denominator_of.nd rfl (Or.inl rfl)) (pss_one (ps_set (i := 1) sc_denominator_of.nd rfl (Or.inl rfl) (pe_callBfun cr_lcm (by rfl) T.m_lcm (pa_cons (pv 1) (pa_cons (pe_ix (ix_tupK K) (pv 2) pe_int (fun _ _ => rfl)) pa_nil))))))
    (pss_one (ps_ret (pv 1))))), ?_⟩
  try dsimp only [L2.cxOf, L2.Cx.nox]
  refine' enterP h (fun S mo => ?sim) ?go
  (case sim => walk_at "sim")
  rintro ds kt kx ⟨ps, rfl, hp, hl, hk⟩
  walk_at "d"
  refine dforM Pd (fun l e => ∃ y : Slo, e = ⟨0, [.d (.tup (ps.map Pd)), .d (.int (lcmP l : Nat)), y]⟩) ⟨.u, rfl⟩ ?_ ?_
  · rintro e ⟨y, rfl⟩
    walk_at "d"
    exact hk
  · rintro l p r e N h1 ⟨y, rfl⟩ hN
    have pos : 0 < lcmP ps := lcmF_pos ps 1 (by decide) hp
    have split : lcmP ps = lcmF (lcmP (l ++ [p])) r := by
      unfold lcmP lcmF
      rw [h1, List.foldl_append, List.foldl_append]
      rfl
    have e2 : lcmP (l ++ [p]) = Nat.lcm (lcmP l) p.2.natAbs := by
      unfold lcmP lcmF
      rw [List.foldl_append]
      rfl
    have d1 : lcmP (l ++ [p]) ∣ lcmP ps := split ▸ (lcmF_dvd r _).1
    have b1 : lcmP l ≤ lcmP ps := Nat.le_of_dvd pos (Nat.dvd_trans (e2 ▸ Nat.dvd_lcm_left _ _) d1)
    have b2 : p.2.natAbs ≤ lcmP ps := Nat.le_of_dvd pos (Nat.dvd_trans (e2 ▸ Nat.dvd_lcm_right _ _) d1)
    unfold Pd
    walk_at "d"
    refine ⟨by omega, by omega, hN _ ⟨.d (Pd p), ?_⟩⟩
    rw [e2]
    rfl
theorem sc_lowest_terms : FnScope ["above", "below", "common"] ["above", "below"] (defScope s_lowest_terms) := ⟨rfl, rfl, rfl, by decide +kernel, rfl, by decide +kernel, by decide +kernel⟩
theorem ok_lowest_terms (T : Txt P K mg) {k : Nat} : FnOk P w K mg base CX0 (k + 1) T.f_lowest_terms T.d_lowest_terms ["above", "below"] (spPu K dLowT) := by
  refine T.F_lowest_terms.ok sc_lowest_terms (fun vs H Q E h => spPu_len (by rintro _ _ _ ⟨a, b, rfl, hb, hw, hk⟩; rfl) h) (fun cdv A outer s H vs Q E hr h => ?_)
  refine ⟨_, (pss_cons (ps_set (i := 2) sc_lowest_terms.nd rfl (Or.inl rfl) (pe_callBfun cr_gcd (by rfl) T.m_gcd (pa_cons (pv 0) (pa_cons (pv 1) pa_nil))))
    (pss_cons (ps_if (pt_cmpR op_lt (pv 1) pe_int (by rfl)) (pss_one (ps_set (i := 2) sc_lowest_terms.nd rfl (Or.inl rfl) (pe_un un_neg (pv 2)))) pss_nil)
    (pss_one (ps_ret (pe_tup (pa_cons (pe_op op_fdivW (pv 0) (pv 2)) (pa_cons (pe_op op_fdivW (pv 1) (pv 2)) pa_nil))))))), ?_⟩
  try dsimp only [L2.cxOf, L2.Cx.nox]
  refine' enterP h (fun S mo => ?sim) ?go
  (case sim => walk_at "sim")
  rintro ds kt kx ⟨a, b, rfl, hb, hw, hk⟩
  have g1 : 0 < Int.gcd a b := Int.gcd_pos_of_ne_zero_right a (by omega)
  have g2 : Int.gcd a b ≤ b.natAbs := Nat.le_of_dvd (by omega) (Nat.gcd_dvd_right a.natAbs b.natAbs)
  have cw : CDivW 0 (Int.gcd a b : Int) := ⟨by omega, wide_log (Nat.lt_of_le_of_lt (by omega) hw)⟩
  walk_at "d"
  rw [if_neg (by omega)]
  exact ⟨cw, cw, hk⟩
theorem sc_fraction : FnScope ["above", "below", "value"] ["above", "below"] (defScope s_fraction) := ⟨rfl, rfl, rfl, by decide +kernel, rfl, by decide +kernel, by decide +kernel⟩
theorem ok_fraction (T : Txt P K mg) {k : Nat} : FnOk P w K mg base (L2.CX P w) (k + 3) T.f_fraction T.d_fraction ["above", "below"] (spPu K (dFrac T.C_OutOfRange)) := by
  refine T.F_fraction.okX sc_fraction (fun vs H Q E h => spPu_len (by rintro _ _ _ ⟨a, b, rfl, h0, h1, hb, hw, hk⟩; rfl) h) (fun cdv A outer s H vs Q E hr h => ?_)
  refine ⟨_, (pss_cons (ps_set (i := 2) sc_fraction.nd rfl (Or.inl rfl) (pe_call (ok_lowest_terms T) hr (by rfl) T.g_lowest_terms T.F_lowest_terms.kp T.b_lowest_terms .nil pass0 (pa_cons (pv 0) (pa_cons (pv 1) pa_nil))))
    (pss_cons (ps_if (pt_not (pt_chain op_le op_le pe_int (pe_ix (ix_tupK K) (pv 2) pe_int (fun _ _ => rfl)) (pe_ix (ix_tupK K) (pv 2) pe_int (fun _ _ => rfl)))) (pss_one (ps_raise rfl (takes_of rfl rfl rfl rfl) (pmk_oex T.o_OutOfRange T.i_OutOfRange T.t_OutOfRange (ok_OutOfRange_init T) hr T.b_OutOfRange_init .nil pass0 (by rfl) T.m_OutOfRange (pa_cons (pe_tup (pa_cons (pv 0) (pa_cons (pv 1) pa_nil))) pa_nil)))) pss_nil)
    (pss_one (ps_ret (pv 2))))), ?_⟩
  try dsimp only [L2.cxOf, L2.Cx.nox]
  refine' enterP h (fun S mo => ?sim) ?go
  (case sim => walk_at "sim")
  rintro ds kt kx ⟨a, b, rfl, h0, h1, hb, hw, hk⟩
  walk_at "d"
  refine ⟨a, b, rfl, hb, hw, ?_⟩
  obtain ⟨l0, l1⟩ := low_in h0 h1 hb
  unfold lowD Pd at *
  walk_at "d"
  rw [if_pos l0, if_neg (by simp [l1])]
  exact hk
theorem sc_check_names : FnScope ["needed", "names", "name"] ["needed", "names"] (defScope s_check_names) := ⟨rfl, rfl, rfl, by decide +kernel, rfl, by decide +kernel, by decide +kernel⟩
theorem ok_check_names (T : Txt P K mg) {k : Nat} : FnOk P w K mg base (L2.CX P w) (k + 3) T.f_check_names T.d_check_names ["needed", "names"] (spPu K (dCheckN T.C_UnknownName)) := by
  refine T.F_check_names.okX sc_check_names (fun vs H Q E h => spPu_len (by rintro _ _ _ ⟨xs, ns, rfl, hk⟩; rfl) h) (fun cdv A outer s H vs Q E hr h => ?_)
  refine ⟨_, (pss_one (ps_for (passes_of rfl) rfl (pi_tup (pv 0)) (pg_name (i := 2) sc_check_names.nd rfl (Or.inl rfl)) (pss_one (ps_if (pt_cmpR (notIn_seqK K) (pv 2) (pv 1) (by rfl)) (pss_one (ps_raise rfl (takes_of rfl rfl rfl rfl) (pmk_oex T.o_UnknownName T.i_UnknownName T.t_UnknownName (ok_UnknownName_init T) hr T.b_UnknownName_init .nil pass0 (by rfl) T.m_UnknownName (pa_cons (pv 2) pa_nil)))) pss_nil)))), ?_⟩
  try dsimp only [L2.cxOf, L2.Cx.nox]
  refine' enterP h (fun S mo => ?sim) ?go
  (case sim => walk_at "sim")
  rintro ds kt kx ⟨xs, ns, rfl, hk⟩
  walk_at "d"
  refine dforM D.str (fun l e => (∃ y : Slo, e = ⟨0, [.d (.tup (xs.map .str)), .d (.tup (ns.map .str)), y]⟩) ∧ ∀ x ∈ l, x ∈ ns) ⟨⟨.u, rfl⟩, fun x h => nomatch h⟩ ?_ ?_
  · rintro e ⟨⟨y, rfl⟩, hall⟩
    rw [List.find?_eq_none.mpr fun x hx => by simp [hall x hx]] at hk
    exact hk
  · rintro l x r e N h1 ⟨⟨y, rfl⟩, hall⟩ hN
    walk_at "d"
    rw [inD_str]
    refine ⟨by rw [List.all_map]; exact List.all_eq_true.mpr fun x _ => rfl, ?_⟩
    by_cases c : x ∈ ns
    · rw [if_neg (by simp [c])]
      refine hN _ ⟨⟨_, rfl⟩, fun q hq => ?_⟩
      rcases List.mem_append.mp hq with hq | hq
      · exact hall q hq
      · rw [List.mem_singleton.mp hq]; exact c
    · rw [if_pos (by simp [c])]
      rw [h1, List.find?_append, List.find?_eq_none.mpr fun r hr => by simp [hall r hr], Option.none_or, List.find?_cons, decide_eq_true c] at hk
      exact hk
end

/-! ### numbers in their order, each once -/
def insO (n : Int) : List Int → List Int
  | [] => [n]
  | m :: r => if n < m then n :: m :: r else if n = m then m :: r else m :: insO n r
theorem insO_mem (n : Int) : ∀ (l : List Int) (k : Int), k ∈ insO n l ↔ k = n ∨ k ∈ l
  | [], k => by simp [insO]
  | m :: r, k => by
    unfold insO
    split
    · rw [List.mem_cons]
    · split
      · rename_i h1 h2
        subst h2
        rw [List.mem_cons]
        exact ⟨fun h => .inr h, fun h => h.elim (fun e => .inl e) id⟩
      · rw [List.mem_cons, insO_mem n r k, List.mem_cons]
        exact ⟨fun h => h.elim (fun e => .inr (.inl e)) fun h => h.elim .inl fun h => .inr (.inr h), fun h => h.elim (fun e => .inr (.inl e)) fun h => h.elim .inl fun h => .inr (.inr h)⟩
theorem insO_up (n : Int) : ∀ l : List Int, l.Pairwise (· < ·) → (insO n l).Pairwise (· < ·)
  | [], _ => List.pairwise_singleton _ _
  | m :: r, h => by
    obtain ⟨h1, h2⟩ := List.pairwise_cons.mp h
    unfold insO
    split
    · rename_i c
      exact List.pairwise_cons.mpr ⟨fun k hk => (List.mem_cons.mp hk).elim (fun e => e ▸ c) fun hk => Int.lt_trans c (h1 k hk), h⟩
    · split
      · exact h
      · rename_i c1 c2
        refine List.pairwise_cons.mpr ⟨fun k hk => ?_, insO_up n r h2⟩
        rcases (insO_mem n r k).mp hk with rfl | hk
        · omega
        · exact h1 k hk
def sortO (l : List Int) : List Int := l.foldr insO []
theorem sortO_mem : ∀ (l : List Int) (k : Int), k ∈ sortO l ↔ k ∈ l
  | [], k => by simp [sortO]
  | m :: r, k => by
    show k ∈ insO m (sortO r) ↔ _
    rw [insO_mem, sortO_mem r k, List.mem_cons]
theorem sortO_up : ∀ l : List Int, (sortO l).Pairwise (· < ·)
  | [] => List.Pairwise.nil
  | m :: r => insO_up m _ (sortO_up r)
theorem up_one : ∀ {l m : List Int}, l.Pairwise (· < ·) → m.Pairwise (· < ·) → (∀ k, k ∈ l ↔ k ∈ m) → l = m
  | [], [], _, _, _ => rfl
  | [], b :: s, _, _, h => absurd ((h b).mpr List.mem_cons_self) List.not_mem_nil
  | a :: r, [], _, _, h => absurd ((h a).mp List.mem_cons_self) List.not_mem_nil
  | a :: r, b :: s, h1, h2, h => by
    obtain ⟨a1, a2⟩ := List.pairwise_cons.mp h1
    obtain ⟨b1, b2⟩ := List.pairwise_cons.mp h2
    have e : a = b := by
      rcases List.mem_cons.mp ((h a).mp List.mem_cons_self) with e | e
      · exact e
      · rcases List.mem_cons.mp ((h b).mpr List.mem_cons_self) with f | f
        · exact f.symm
        · have := b1 a e
          have := a1 b f
          omega
    subst e
    have e2 : r = s := up_one a2 b2 fun k => ⟨fun hk => (List.mem_cons.mp ((h k).mp (List.mem_cons_of_mem _ hk))).resolve_left fun z => by have := a1 k hk; omega, fun hk => (List.mem_cons.mp ((h k).mpr (List.mem_cons_of_mem _ hk))).resolve_left fun z => by have := b1 k hk; omega⟩
    rw [e2]
theorem up_nodup : ∀ {l : List Int}, l.Pairwise (· < ·) → l.Nodup := fun h => h.imp fun h => by omega
/-- the numbers between 0 and a whole -/
def innF (ns : List Int) (W : Int) : List Int := sortO (ns.filter fun n => decide (0 < n) && decide (n < W))
theorem innF_mem {ns : List Int} {W k : Int} : k ∈ innF ns W ↔ k ∈ ns ∧ 0 < k ∧ k < W := by
  unfold innF
  rw [sortO_mem, List.mem_filter]
  simp
theorem innF_up {ns : List Int} {W : Int} : (innF ns W).Pairwise (· < ·) := sortO_up _
def lev (inn : List Int) (W top n : Int) : Int := if n = 0 then 0 else if n = W then top else (inn.idxOf n : Nat) + 1
/-- the type of some numbers, parts of a whole -/
def typF (ns : List Int) (W : Int) : List Int := ns.map (lev (innF ns W) W ((ns.length : Int) + 1))
theorem innF_mul {ns : List Int} {W t : Int} (ht : 0 < t) : innF (ns.map (t * ·)) (t * W) = (innF ns W).map (t * ·) := by
  refine up_one innF_up ?_ fun k => ?_
  · rw [List.pairwise_map]
    exact innF_up.imp fun h => Int.mul_lt_mul_of_pos_left h ht
  · rw [innF_mem, List.mem_map, List.mem_map]
    constructor
    · rintro ⟨⟨n, h1, rfl⟩, h2, h3⟩
      refine ⟨n, innF_mem.mpr ⟨h1, ?_, Int.lt_of_mul_lt_mul_left h3 (Int.le_of_lt ht)⟩, rfl⟩
      exact Int.pos_of_mul_pos_right h2 ht
    · rintro ⟨n, h1, rfl⟩
      obtain ⟨h1, h2, h3⟩ := innF_mem.mp h1
      exact ⟨⟨n, h1, rfl⟩, Int.mul_pos ht h2, Int.mul_lt_mul_of_pos_left h3 ht⟩
theorem idx_mul {t : Int} (ht : 0 < t) (n : Int) : ∀ l : List Int, (l.map (t * ·)).idxOf (t * n) = l.idxOf n
  | [] => rfl
  | a :: r => by
    rw [List.map_cons, List.idxOf_cons, List.idxOf_cons]
    by_cases e : a = n
    · subst e
      simp
    · have e2 : t * a ≠ t * n := fun z => e (Int.eq_of_mul_eq_mul_left (by omega) z)
      rw [beq_false_of_ne e, beq_false_of_ne e2]
      simp only [cond_false]
      rw [idx_mul ht n r]
theorem typF_mul {ns : List Int} {W t : Int} (ht : 0 < t) : typF (ns.map (t * ·)) (t * W) = typF ns W := by
  unfold typF
  rw [innF_mul ht, List.map_map, List.length_map]
  refine List.map_congr_left fun n _ => ?_
  show lev ((innF ns W).map (t * ·)) (t * W) _ (t * n) = lev (innF ns W) W _ n
  unfold lev
  rw [idx_mul ht]
  by_cases c : n = 0
  · rw [if_pos c, if_pos (by rw [c, Int.mul_zero])]
  · rw [if_neg c, if_neg fun z => c ((Int.mul_eq_zero.mp z).resolve_left (by omega))]
    by_cases d : n = W
    · rw [if_pos d, if_pos (by rw [d])]
    · rw [if_neg d, if_neg fun z => d (Int.eq_of_mul_eq_mul_left (by omega) z)]
theorem oSay_in {f : Str → Int} {W : Int} (w0 : 0 ≤ W) : ∀ s : Say, (∀ x ∈ s.leaves, 0 ≤ f x ∧ f x ≤ W) → 0 ≤ oSay f W s ∧ oSay f W s ≤ W
  | .unk x, h => h x (List.mem_singleton.mpr rfl)
  | .yes, _ => ⟨w0, Int.le_refl _⟩
  | .no, _ => ⟨Int.le_refl _, w0⟩
  | .not a, h => by
    show 0 ≤ (if oSay f W a = 0 then W else 0) ∧ (if oSay f W a = 0 then W else 0) ≤ W
    split <;> omega
  | .bin k a b, h => by
    obtain ⟨a0, a1⟩ := oSay_in w0 a fun x m => h x (List.mem_append_left _ m)
    obtain ⟨b0, b1⟩ := oSay_in w0 b fun x m => h x (List.mem_append_right _ m)
    show 0 ≤ oMk W k _ _ ∧ oMk W k _ _ ≤ W
    cases k <;> simp only [oMk] <;> repeat' split
    all_goals omega
theorem oMk_mul {t : Int} (ht : 0 < t) (k : Mk6) (W a b : Int) : oMk (t * W) k (t * a) (t * b) = t * oMk W k a b := by
  have lt : ∀ x y : Int, (t * x < t * y) = (x < y) := fun x y => propext ⟨fun h => Int.lt_of_mul_lt_mul_left h (Int.le_of_lt ht), fun h => Int.mul_lt_mul_of_pos_left h ht⟩
  have le : ∀ x y : Int, (t * x ≤ t * y) = (x ≤ y) := fun x y => propext ⟨fun h => Int.le_of_mul_le_mul_left h ht, fun h => Int.mul_le_mul_of_nonneg_left h (Int.le_of_lt ht)⟩
  have eq : ∀ x y : Int, (t * x = t * y) = (x = y) := fun x y => propext ⟨fun h => Int.eq_of_mul_eq_mul_left (by omega) h, fun h => by rw [h]⟩
  cases k <;> simp only [oMk, gt_iff_lt, lt, le, eq] <;> repeat' split
  all_goals rfl
theorem oSay_mul {t : Int} (ht : 0 < t) (f : Str → Int) (W : Int) : ∀ s : Say, oSay (fun x => t * f x) (t * W) s = t * oSay f W s
  | .unk x => rfl
  | .yes => rfl
  | .no => (Int.mul_zero t).symm
  | .not a => by
    show (if oSay (fun x => t * f x) (t * W) a = 0 then t * W else 0) = t * (if oSay f W a = 0 then W else 0)
    rw [oSay_mul ht f W a]
    by_cases c : oSay f W a = 0
    · rw [if_pos c, if_pos (by rw [c, Int.mul_zero])]
    · rw [if_neg c, if_neg fun z => c ((Int.mul_eq_zero.mp z).resolve_left (by omega)), Int.mul_zero]
  | .bin k a b => by
    show oMk (t * W) k _ _ = t * oMk W k _ _
    rw [oSay_mul ht f W a, oSay_mul ht f W b, oMk_mul ht]
theorem oSay_congr {f g : Str → Int} (W : Int) : ∀ s : Say, (∀ x ∈ s.leaves, f x = g x) → oSay f W s = oSay g W s
  | .unk x, h => h x (List.mem_singleton.mpr rfl)
  | .yes, _ => rfl
  | .no, _ => rfl
  | .not a, h => by
    show (if _ = 0 then W else 0) = if _ = 0 then W else 0
    rw [oSay_congr W a h]
  | .bin k a b, h => by
    show oMk W k _ _ = oMk W k _ _
    rw [oSay_congr W a fun x m => h x (List.mem_append_left _ m), oSay_congr W b fun x m => h x (List.mem_append_right _ m)]

/-! ### values and types by order -/
def numL (ps : List (Int × Int)) : List Int := ps.map fun p => p.1 * ((lcmP ps : Nat) / p.2)
def numsD (ks : List Key) (ps : List (Int × Int)) : List (Key × D) := (ks.zip ps).map fun p => (p.1, D.int (p.2.1 * ((lcmP ps : Nat) / p.2.2)))
def dNums : SpP := fun ds k _ => ∃ (x : D) (ks : List Key) (ps : List (Int × Int)), ds = [x, .tup (ps.map Pd)] ∧ (x = .tup (ks.map dK) ∨ x = .lst (ks.map dK)) ∧ ks.Nodup ∧ ps.length = ks.length ∧ okP ps ∧ k (.tup [.int (lcmP ps : Nat), .dic (numsD ks ps)])
theorem numsD_keys {ks : List Key} {ps : List (Int × Int)} (h : ps.length = ks.length) : (numsD ks ps).map Prod.fst = ks := by
  unfold numsD
  rw [List.map_map]
  have : (Prod.fst ∘ fun p : Key × Int × Int => (p.1, D.int (p.2.1 * ((lcmP ps : Nat) / p.2.2)))) = Prod.fst := rfl
  rw [this, List.map_fst_zip (by omega)]
theorem numsD_vals {ks : List Key} {ps : List (Int × Int)} (h : ps.length = ks.length) : (numsD ks ps).map Prod.snd = (numL ps).map D.int := by
  unfold numsD numL
  rw [List.map_map, List.map_map]
  have : (Prod.snd ∘ fun p : Key × Int × Int => (p.1, D.int (p.2.1 * ((lcmP ps : Nat) / p.2.2)))) = (D.int ∘ fun p : Int × Int => p.1 * ((lcmP ps : Nat) / p.2)) ∘ Prod.snd := rfl
  rw [this, ← List.map_map, List.map_snd_zip (by omega)]
theorem numsD_len {ks : List Key} {ps : List (Int × Int)} (h : ps.length = ks.length) : (numsD ks ps).length = ks.length := by
  have := congrArg List.length (numsD_keys h)
  rw [List.length_map] at this
  exact this
theorem numsD_at {ks : List Key} {ps : List (Int × Int)} (nd : ks.Nodup) (h : ps.length = ks.length) (i : Nat) (hi : i < ks.length) : valD (numsD ks ps) ks[i] = some (.int ((numL ps).getD i 0)) := by
  refine val_mem (by rw [numsD_keys h]; exact nd) ?_
  unfold numsD numL
  refine List.mem_map.mpr ⟨(ks[i], ps[i]'(by omega)), ?_, ?_⟩
  · rw [List.mem_iff_getElem]
    exact ⟨i, by rw [List.length_zip]; omega, List.getElem_zip⟩
  · rw [List.getD_eq_getElem?_getD, List.getElem?_map, List.getElem?_eq_getElem (by omega)]
    rfl
theorem numsD_name {ns : List Str} {ps : List (Int × Int)} (nd : ns.Nodup) (h : ps.length = ns.length) {x : Str} (hx : x ∈ ns) : valD (numsD (ns.map Sum.inr) ps) (.inr x) = some (.int (colR ns (numL ps) x)) := by
  have hi : ns.idxOf x < ns.length := List.idxOf_lt_length_of_mem hx
  have := numsD_at (ks := ns.map Sum.inr) (ps := ps) (nd.map _ fun a b hne z => hne (Sum.inr.inj z)) (by rw [List.length_map]; exact h) (ns.idxOf x) (by rw [List.length_map]; exact hi)
  rw [List.getElem_map, List.getElem_idxOf] at this
  exact this
theorem numL_in {ps : List (Int × Int)} (h : okP ps) : ∀ n ∈ numL ps, 0 ≤ n ∧ n ≤ (lcmP ps : Nat) := by
  intro n hn
  obtain ⟨p, hm, rfl⟩ := List.mem_map.mp hn
  obtain ⟨p0, p1, p2, _⟩ := h.1 _ hm
  have w0 : 0 ≤ (lcmP ps : Int) / p.2 := Int.ediv_nonneg (Int.natCast_nonneg _) (by omega)
  refine ⟨Int.mul_nonneg p0 w0, ?_⟩
  calc p.1 * ((lcmP ps : Int) / p.2) ≤ p.2 * ((lcmP ps : Int) / p.2) := Int.mul_le_mul_of_nonneg_right p1 w0
    _ ≤ (lcmP ps : Int) := Int.mul_ediv_self_le (by omega)
theorem numL_len {ps : List (Int × Int)} : (numL ps).length = ps.length := by unfold numL; rw [List.length_map]
theorem colR_in {ns : List Str} {q : List Int} {W : Int} (w0 : 0 ≤ W) (h : ∀ n ∈ q, 0 ≤ n ∧ n ≤ W) (x : Str) : 0 ≤ colR ns q x ∧ colR ns q x ≤ W := by
  unfold colR
  rw [List.getD_eq_getElem?_getD]
  cases e : q[ns.idxOf x]? with
  | none => exact ⟨Int.le_refl _, w0⟩
  | some n => exact h n (List.mem_of_getElem? e)
def orRef (r : Option (Addr × Str × Str)) (kx : Addr → Str → D → Prop) (k : Prop) : Prop := match r with
  | some (c, f, y) => kx c f (.str y)
  | none => k
def refO (M W N : Addr) (s : Say) (ns : List Str) : Option (Addr × Str × Str) :=
  if hasPlus s = true then some (M, "mark", "plus") else if 4 < (s.namesIn []).length then some (W, "what", "unknowns") else ((s.namesIn []).find? fun x => decide (x ∉ ns)).map fun x => (N, "name", x)
def dOVal (M W N : Addr) : SpP := fun ds k kx => ∃ (s : Say) (ns : List Str) (ps : List (Int × Int)), ds = [Sd s, .tup (ns.map .str), .tup (ps.map Pd)] ∧ s.words ≤ 90 ∧ ns.Nodup ∧ ns.length ≤ 100 ∧ ps.length = ns.length ∧ okP ps ∧
  orRef (refO M W N s ns) kx (k (lowD (oSay (colR ns (numL ps)) (lcmP ps : Nat) s) (lcmP ps : Nat)))
def dOLev (M W N : Addr) : SpP := fun ds k kx => ∃ (s : Say) (ns : List Str) (q : List Int), ds = [Sd s, .tup (ns.map .str), Rd q] ∧ s.words ≤ 90 ∧ ns.Nodup ∧ q.length = ns.length ∧
  orRef (refO M W N s ns) kx (k (.int (oSay (colR ns q) ((ns.length : Int) + 1) s)))
def dTypeOf : SpP := fun ds k _ => ∃ ps : List (Int × Int), ds = [.tup (ps.map Pd)] ∧ ps.length ≤ 900 ∧ okP ps ∧ k (Rd (typF (numL ps) (lcmP ps : Nat)))
def raiF (q : List Int) : List Int := q.map fun l => if l = blocksP q then (q.length : Int) + 1 else l
def dRaised (C : Addr) : SpP := fun ds k kx => ∃ q : List Int, ds = [Rd q] ∧ if blocksP q = 0 then kx C "value" (Rd q) else k (Rd (raiF q))
def dPtOf : SpP := fun ds k _ => ∃ q : List Int, ds = [Rd q] ∧ q.length ≤ 1000 ∧ (∀ l ∈ q, 0 ≤ l ∧ l ≤ (q.length : Int) + 1) ∧ k (.tup (q.map fun l => lowD l ((q.length : Int) + 1)))
theorem ref_in {M W N : Addr} {s : Say} {ns : List Str} (h : refO M W N s ns = none) : hasPlus s = false ∧ (s.namesIn []).length ≤ 4 ∧ ∀ x ∈ s.leaves, x ∈ ns := by
  unfold refO at h
  split at h
  · cases h
  · rename_i c
    split at h
    · cases h
    · rename_i d
      refine ⟨by simpa using c, by omega, fun x hx => ?_⟩
      have := List.find?_eq_none.mp (Option.map_eq_none_iff.mp h) x (names_leaves s x hx)
      simpa using this
theorem ref_cases {M W N : Addr} {s : Say} {ns : List Str} {kx : Addr → Str → D → Prop} {k : Prop} (h : orRef (refO M W N s ns) kx k) :
    if [s].any hasPlus = true then kx M "mark" (.str "plus") else if (foldNames [s] []).length > 4 then kx W "what" (.str "unknowns") else orRef (((s.namesIn []).find? fun x => decide (x ∉ ns)).map fun x => (N, "name", x)) kx k := by
  have e : [s].any hasPlus = hasPlus s := by simp
  rw [e, show foldNames [s] [] = s.namesIn [] from rfl]
  unfold refO at h
  by_cases c1 : hasPlus s = true
  · rw [if_pos c1] at h ⊢
    exact h
  · rw [if_neg c1] at h ⊢
    by_cases c2 : 4 < (s.namesIn []).length
    · rw [if_pos c2] at h
      rw [if_pos (show (s.namesIn []).length > 4 from c2)]
      exact h
    · rw [if_neg c2] at h
      rw [if_neg (show ¬ (s.namesIn []).length > 4 from c2)]
      exact h
section
variable {P : Program} {w : World} {K : PySem.W.Frag} {mg : Str → Option Value} {base : Heap}
theorem sc_numbers_for : FnScope ["names", "point", "whole", "name", "above", "below"] ["names", "point"] (defScope s_numbers_for) := ⟨rfl, rfl, rfl, by decide +kernel, rfl, by decide +kernel, by decide +kernel⟩
theorem ok_numbers_for (T : Txt P K mg) {k : Nat} : FnOk P w K mg base CX0 (k + 2) T.f_numbers_for T.d_numbers_for ["names", "point"] (spPu K dNums) := by
  refine T.F_numbers_for.ok sc_numbers_for (fun vs H Q E h => spPu_len (by rintro _ _ _ ⟨x, ks, ps, rfl, hx, nd, hl, hp, hk⟩; rfl) h) (fun cdv A outer s H vs Q E hr h => ?_)
  refine ⟨_, (pss_cons (ps_set (i := 2) sc_numbers_for.nd rfl (Or.inr rfl) (pe_call (ok_denominator_of T) hr (by rfl) T.g_denominator_of T.F_denominator_of.kp T.b_denominator_of .nil pass0 (pa_cons (pv 1) pa_nil)))
    (pss_one (ps_ret (pe_tup (pa_cons (pv 2) (pa_cons (pe_dc (own := [("name", 3), ("above", 4), ("below", 5)]) (g := (gTup K 2 (gCons (gName 3) (gCons (gTup K 2 (gCons (gName 4) (gCons (gName 5) gNil))) gNil)))) rfl sc_numbers_for.nd (pi_or (pi_zipM (by rfl) T.z_zip (pa_cons (pv 0) (pa_cons (pv 1) pa_nil))) (RZ.pi_zipA (by rfl) T.z_zip (pa_cons (pv 0) (pa_cons (pv 1) pa_nil)))) (blkOk_by (N := ["names", "point", "whole", "name", "above", "below"]) (sc := defScope s_numbers_for) (by decide +kernel)) (fun _ _ _ _ _ => (pg_tup rfl (pgs_cons (pg_name (i := 3) sc_numbers_for.nd rfl (Or.inl rfl)) (pgs_cons (pg_tup rfl (pgs_cons (pg_name (i := 4) sc_numbers_for.nd rfl (Or.inl rfl)) (pgs_cons (pg_name (i := 5) sc_numbers_for.nd rfl (Or.inl rfl)) pgs_nil))) pgs_nil)))) (fun _ _ _ _ _ => pts_nil) (fun _ _ _ _ _ => (pv 3)) (fun _ _ _ _ _ => (pe_op op_mul (pv 4) (pe_op op_fdiv (pv 2) (pv 5))))) pa_nil)))))), ?_⟩
  try dsimp only [L2.cxOf, L2.Cx.nox]
  refine' enterP h (fun S mo => ?sim) ?go
  (case sim => walk_at "sim")
  rintro ds kt kx ⟨x, ks, ps, rfl, hx, nd, hl, hp, hk⟩
  have W0 : (0 : Int) ≤ (lcmP ps : Nat) := Int.natCast_nonneg _
  have mg0 : mergeD [] ((ks.zip ps).map fun p => (p.1, D.int (p.2.1 * ((lcmP ps : Nat) / p.2.2)))) = numsD ks ps := by
    show mergeD [] (numsD ks ps) = _
    rw [merge_new (by rw [numsD_keys hl]; exact nd) (acc := []) (fun _ _ q hq => nomatch hq), List.nil_append]
  rcases hx with rfl | rfl
  · walk_at "d"
    refine ⟨ps, rfl, fun p m => (hp.1 p m).2.2.1, hp.2, ?_⟩
    walk_at "d"
    rw [zipD_map]
    refine dcMM _ (fun p => p.1) (fun p => .int (p.2.1 * ((lcmP ps : Nat) / p.2.2))) (fun p hpm K hK => ?_) (by rw [mg0]; exact hk)
    obtain ⟨p0, p1, p2, p3⟩ := hp.1 p.2 (List.of_mem_zip hpm).2
    unfold Pd
    walk_at "d"
    exact ⟨⟨by omega, by omega⟩, .inl ⟨by omega, by omega⟩, hK _ rfl⟩
  · walk_at "d"
    refine ⟨ps, rfl, fun p m => (hp.1 p m).2.2.1, hp.2, ?_⟩
    walk_at "d"
    rw [zipD_map]
    refine dcMM _ (fun p => p.1) (fun p => .int (p.2.1 * ((lcmP ps : Nat) / p.2.2))) (fun p hpm K hK => ?_) (by rw [mg0]; exact hk)
    obtain ⟨p0, p1, p2, p3⟩ := hp.1 p.2 (List.of_mem_zip hpm).2
    unfold Pd
    walk_at "d"
    exact ⟨⟨by omega, by omega⟩, .inl ⟨by omega, by omega⟩, hK _ rfl⟩
theorem sc_order_value : FnScope ["saying", "names", "point", "whole", "numbers", "columns", "name"] ["saying", "names", "point"] (defScope s_order_value) := ⟨rfl, rfl, rfl, by decide +kernel, rfl, by decide +kernel, by decide +kernel⟩
theorem ok_order_value (T : Txt P K mg) {k : Nat} : FnOk P w K mg base (L2.CX P w) (k + 110) T.f_order_value T.d_order_value ["saying", "names", "point"] (spPu K (dOVal T.C_WrongMark T.C_TooMany T.C_UnknownName)) := by
  refine T.F_order_value.okX sc_order_value (fun vs H Q E h => spPu_len (by rintro _ _ _ ⟨s, ns, ps, rfl, hw, nd, hn, hl, hp, hk⟩; rfl) h) (fun cdv A outer s H vs Q E hr h => ?_)
  refine ⟨_, (pss_cons (ps_expr (pe_call (ok_check_order T) hr (by rfl) T.g_check_order T.F_check_order.kp T.b_check_order .nil (passes_call (takes_of rfl rfl rfl rfl) fun _ _ _ _ h => h) (pa_cons (pe_tup (pa_cons (pv 0) pa_nil)) pa_nil)))
    (pss_cons (ps_expr (pe_call (ok_check_names T) hr (by rfl) T.g_check_names T.F_check_names.kp T.b_check_names .nil (passes_call (takes_of rfl rfl rfl rfl) fun _ _ _ _ h => h) (pa_cons (pe_call (ok_unknowns_of T) hr (by rfl) T.g_unknowns_of T.F_unknowns_of.kp T.b_unknowns_of .nil pass0 (pa_cons (pe_tup (pa_cons (pv 0) pa_nil)) pa_nil)) (pa_cons (pv 1) pa_nil))))
    (pss_cons (ps_asg (pe_call (ok_numbers_for T) hr (by rfl) T.g_numbers_for T.F_numbers_for.kp T.b_numbers_for .nil pass0 (pa_cons (pv 1) (pa_cons (pv 2) pa_nil))) (pg_tup rfl (pgs_cons (pg_name (i := 3) sc_order_value.nd rfl (Or.inl rfl)) (pgs_cons (pg_name (i := 4) sc_order_value.nd rfl (Or.inr rfl)) pgs_nil))))
    (pss_cons (ps_setDc (i := 5) (own := [("name", 6)]) (g := (gName 6)) rfl sc_order_value.nd rfl rfl (sw_trueD rfl rfl rfl (by decide +kernel)) (pi_tup (pv 1)) (blkOk_by (N := ["saying", "names", "point", "whole", "numbers", "columns", "name"]) (sc := defScope s_order_value) (by decide +kernel)) (fun _ _ _ _ _ => (pg_name (i := 6) sc_order_value.nd rfl (Or.inl rfl))) (fun _ _ _ _ _ => pts_nil) (fun _ _ _ _ _ => (pv 6)) (fun _ _ _ _ _ => (pe_lst (pa_cons (pe_dget (hu_of hr) (pv 4) (pv 6) (fun _ _ => rfl)) pa_nil))))
    (pss_one (ps_ret (pe_call (ok_fraction T) hr (by rfl) T.g_fraction T.F_fraction.kp T.b_fraction .nil (passes_call (takes_of rfl rfl rfl rfl) fun _ _ _ _ h => h) (pa_cons (pe_ix (ix_listK K) (pe_call (ok_order_numbers T) hr (by rfl) T.g_order_numbers T.F_order_numbers.kp T.b_order_numbers .nil pass0 (pa_cons (pv 0) (pa_cons (pv 5) (pa_cons (pv 3) (pa_cons pe_int pa_nil))))) pe_int (fun _ _ => rfl)) (pa_cons (pv 3) pa_nil))))))))), ?_⟩
  try dsimp only [L2.cxOf, L2.Cx.nox]
  refine' enterP h (fun S mo => ?sim) ?go
  (case sim => walk_at "sim")
  rintro ds kt kx ⟨s, ns, ps, rfl, hw, nd, hn, hl, hp, hk⟩
  have dw := depth_words s
  walk_at "d"
  refine ⟨[s], rfl, by show s.words + 0 ≤ _; omega, ?_⟩
  have hk2 := ref_cases hk
  split
  · rename_i c
    rw [if_pos c] at hk2
    exact hk2
  · rename_i c
    rw [if_neg c] at hk2
    split
    · rename_i c2
      rw [if_pos c2] at hk2
      exact hk2
    · rename_i c2
      rw [if_neg c2] at hk2
      refine ⟨[s], rfl, by show s.words + 0 ≤ _; omega, ?_⟩
      walk_at "d"
      refine ⟨_, ns, rfl, ?_⟩
      rw [show foldNames [s] [] = s.namesIn [] from rfl]
      cases hx : (s.namesIn []).find? fun x => decide (x ∉ ns) with
      | some y =>
        rw [hx] at hk2
        exact hk2
      | none =>
        rw [hx] at hk2
        have hin : ∀ y ∈ s.leaves, y ∈ ns := fun y hy => by
          have := List.find?_eq_none.mp hx y (names_leaves s y hy)
          simpa using this
        walk_at "d"
        refine ⟨_, ns.map Sum.inr, ps, rfl, .inl (by rw [List.map_map]; rfl), nd.map _ fun a b hne z => hne (Sum.inr.inj z), by rw [List.length_map]; exact hl, hp, ?_⟩
        walk_at "d"
        refine dcMM D.str (fun x => .inr x) (fun x => .lst [.int (colR ns (numL ps) x)]) (fun y hy K hK => ?_) ?_
        · walk_at "d"
          rw [numsD_name nd hl hy]
          exact hK _ rfl
        · have nk : ((ns.map fun x => ((Sum.inr x : Key), D.lst [.int (colR ns (numL ps) x)])).map Prod.fst).Nodup := by
            rw [List.map_map]
            exact nd.map _ fun a b hne z => hne (Sum.inr.inj z)
          rw [merge_new nk (acc := []) (fun _ _ q hq => nomatch hq), List.nil_append]
          walk_at "d"
          have oi := oSay_in (f := colR ns (numL ps)) (W := (lcmP ps : Nat)) (Int.natCast_nonneg _) s fun x _ => colR_in (Int.natCast_nonneg _) (numL_in hp) x
          have lp : 0 < lcmP ps := lcmF_pos ps 1 (by decide) fun p m => (hp.1 p m).2.2.1
          refine ⟨s, _, fun x => [colR ns (numL ps) x], 1, _, rfl, by omega, by decide, fun x hxs => ⟨val_mem nk (List.mem_map.mpr ⟨x, hin x hxs, rfl⟩), rfl⟩, ?_⟩
          show oIxL (.lst [.int (oSay (colR ns (numL ps)) (lcmP ps : Nat) s)]) (.int 0) _
          walk_at "d"
          exact ⟨_, _, rfl, oi.1, oi.2, by omega, wide_of (by have := hp.2; omega), hk2⟩
theorem sc_order_level : FnScope ["saying", "names", "kind"] ["saying", "names", "kind"] (defScope s_order_level) := ⟨rfl, rfl, rfl, by decide +kernel, rfl, by decide +kernel, by decide +kernel⟩
theorem ok_order_level (T : Txt P K mg) {k : Nat} : FnOk P w K mg base (L2.CX P w) (k + 110) T.f_order_level T.d_order_level ["saying", "names", "kind"] (spPu K (dOLev T.C_WrongMark T.C_TooMany T.C_UnknownName)) := by
  refine T.F_order_level.okX sc_order_level (fun vs H Q E h => spPu_len (by rintro _ _ _ ⟨s, ns, q, rfl, hw, nd, hl, hk⟩; rfl) h) (fun cdv A outer s H vs Q E hr h => ?_)
  refine ⟨_, (pss_cons (ps_expr (pe_call (ok_check_order T) hr (by rfl) T.g_check_order T.F_check_order.kp T.b_check_order .nil (passes_call (takes_of rfl rfl rfl rfl) fun _ _ _ _ h => h) (pa_cons (pe_tup (pa_cons (pv 0) pa_nil)) pa_nil)))
    (pss_cons (ps_expr (pe_call (ok_check_names T) hr (by rfl) T.g_check_names T.F_check_names.kp T.b_check_names .nil (passes_call (takes_of rfl rfl rfl rfl) fun _ _ _ _ h => h) (pa_cons (pe_call (ok_unknowns_of T) hr (by rfl) T.g_unknowns_of T.F_unknowns_of.kp T.b_unknowns_of .nil pass0 (pa_cons (pe_tup (pa_cons (pv 0) pa_nil)) pa_nil)) (pa_cons (pv 1) pa_nil))))
    (pss_one (ps_ret (pe_ix (ix_listK K) (pe_call (ok_levels_at T) hr (by rfl) T.g_levels_at T.F_levels_at.kp T.b_levels_at .nil pass0 (pa_cons (pv 0) (pa_cons (pv 1) (pa_cons (pe_lst (pa_cons (pv 2) pa_nil)) pa_nil)))) pe_int (fun _ _ => rfl)))))), ?_⟩
  try dsimp only [L2.cxOf, L2.Cx.nox]
  refine' enterP h (fun S mo => ?sim) ?go
  (case sim => walk_at "sim")
  rintro ds kt kx ⟨s, ns, q, rfl, hw, nd, hl, hk⟩
  have dw := depth_words s
  walk_at "d"
  refine ⟨[s], rfl, by show s.words + 0 ≤ _; omega, ?_⟩
  have hk2 := ref_cases hk
  split
  · rename_i c
    rw [if_pos c] at hk2
    exact hk2
  · rename_i c
    rw [if_neg c] at hk2
    split
    · rename_i c2
      rw [if_pos c2] at hk2
      exact hk2
    · rename_i c2
      rw [if_neg c2] at hk2
      refine ⟨[s], rfl, by show s.words + 0 ≤ _; omega, ?_⟩
      walk_at "d"
      refine ⟨_, ns, rfl, ?_⟩
      rw [show foldNames [s] [] = s.namesIn [] from rfl]
      cases hx : (s.namesIn []).find? fun x => decide (x ∉ ns) with
      | some y =>
        rw [hx] at hk2
        exact hk2
      | none =>
        rw [hx] at hk2
        have hin : ∀ y ∈ s.leaves, y ∈ ns := fun y hy => by
          have := List.find?_eq_none.mp hx y (names_leaves s y hy)
          simpa using this
        walk_at "d"
        refine ⟨s, ns, [q], rfl, by omega, nd, hin, fun r hr => by rw [List.mem_singleton.mp hr]; exact hl, by show 1 ≤ 2000; decide, ?_⟩
        unfold levelsP
        walk_at "d"
        exact hk2
theorem sc_raised_type : FnScope ["kind", "top", "level"] ["kind"] (defScope s_raised_type) := ⟨rfl, rfl, rfl, by decide +kernel, rfl, by decide +kernel, by decide +kernel⟩
theorem ok_raised_type (T : Txt P K mg) {k : Nat} : FnOk P w K mg base (L2.CX P w) (k + 5) T.f_raised_type T.d_raised_type ["kind"] (spPu K (dRaised T.C_OutOfRange)) := by
  refine T.F_raised_type.okX sc_raised_type (fun vs H Q E h => spPu_len (by rintro _ _ _ ⟨q, rfl, hk⟩; rfl) h) (fun cdv A outer s H vs Q E hr h => ?_)
  refine ⟨_, (pss_cons (ps_set (i := 1) sc_raised_type.nd rfl (Or.inr rfl) (pe_call (ok_blocks_of T) hr (by rfl) T.g_blocks_of T.F_blocks_of.kp T.b_blocks_of .nil pass0 (pa_cons (pv 0) pa_nil)))
    (pss_cons (ps_if (pt_cmpR op_eq (pv 1) pe_int (by rfl)) (pss_one (ps_raise rfl (takes_of rfl rfl rfl rfl) (pmk_oex T.o_OutOfRange T.i_OutOfRange T.t_OutOfRange (ok_OutOfRange_init T) hr T.b_OutOfRange_init .nil pass0 (by rfl) T.m_OutOfRange (pa_cons (pv 0) pa_nil)))) pss_nil)
    (pss_one (ps_ret (pe_callTy (tuple_ofK K) (by rfl) T.z_tuple (by decide +kernel) (pa_cons (pe_lc (own := [("level", 2)]) (g := (gName 2)) rfl sc_raised_type.nd (pi_tup (pv 0)) (blkOk_by (N := ["kind", "top", "level"]) (sc := defScope s_raised_type) (by decide +kernel)) (fun _ _ _ _ _ => (pg_name (i := 2) sc_raised_type.nd rfl (Or.inl rfl))) (fun _ _ _ _ _ => pts_nil) (fun _ _ _ _ _ => (pe_ifExp (pt_cmpR op_eq (pv 2) (pv 1) (by rfl)) (pe_op op_add (pe_callB (len_seqK K) (by rfl) T.z_len (by decide +kernel) (pa_cons (pv 0) pa_nil)) pe_int) (pv 2)))) pa_nil)))))), ?_⟩
  try dsimp only [L2.cxOf, L2.Cx.nox]
  refine' enterP h (fun S mo => ?sim) ?go
  (case sim => walk_at "sim")
  rintro ds kt kx ⟨q, rfl, hk⟩
  walk_at "d"
  refine ⟨q, rfl, ?_⟩
  walk_at "d"
  split
  · rename_i c
    have c : blocksP q = 0 := by simpa using c
    rw [if_pos c] at hk
    exact hk
  · rename_i c
    have c : ¬ blocksP q = 0 := by simpa using c
    rw [if_neg c] at hk
    unfold Rd at *
    walk_at "d"
    refine dlcMM D.int (fun l => .int (if l = blocksP q then (q.length : Int) + 1 else l)) (fun l hl K hK => ?_) ?_
    · walk_at "d"
      by_cases e : l = blocksP q
      · rw [if_pos e] at hK
        rw [if_pos (by simpa using e)]
        rw [List.length_map]
        exact hK _ rfl
      · rw [if_neg e] at hK
        rw [if_neg (by simpa using e)]
        exact hK _ rfl
    · unfold raiF at hk
      rw [List.map_map] at hk
      exact hk
theorem sc_point_of_type : FnScope ["kind", "level"] ["kind"] (defScope s_point_of_type) := ⟨rfl, rfl, rfl, by decide +kernel, rfl, by decide +kernel, by decide +kernel⟩
theorem ok_point_of_type (T : Txt P K mg) {k : Nat} : FnOk P w K mg base CX0 (k + 5) T.f_point_of_type T.d_point_of_type ["kind"] (spPu K dPtOf) := by
  refine T.F_point_of_type.ok sc_point_of_type (fun vs H Q E h => spPu_len (by rintro _ _ _ ⟨q, rfl, hl, hr', hk⟩; rfl) h) (fun cdv A outer s H vs Q E hr h => ?_)
  refine ⟨_, (pss_one (ps_ret (pe_callTy (tuple_ofK K) (by rfl) T.z_tuple (by decide +kernel) (pa_cons (pe_lc (own := [("level", 1)]) (g := (gName 1)) rfl sc_point_of_type.nd (pi_tup (pv 0)) (blkOk_by (N := ["kind", "level"]) (sc := defScope s_point_of_type) (by decide +kernel)) (fun _ _ _ _ _ => (pg_name (i := 1) sc_point_of_type.nd rfl (Or.inl rfl))) (fun _ _ _ _ _ => pts_nil) (fun _ _ _ _ _ => (pe_call (ok_fraction T) hr (by rfl) T.g_fraction T.F_fraction.kp T.b_fraction .nil passL (pa_cons (pv 1) (pa_cons (pe_op op_add (pe_callB (len_seqK K) (by rfl) T.z_len (by decide +kernel) (pa_cons (pv 0) pa_nil)) pe_int) pa_nil))))) pa_nil)))), ?_⟩
  try dsimp only [L2.cxOf, L2.Cx.nox]
  refine' enterP h (fun S mo => ?sim) ?go
  (case sim => walk_at "sim")
  rintro ds kt kx ⟨q, rfl, hl, hr', hk⟩
  unfold Rd at *
  walk_at "d"
  refine dlcMM D.int (fun l => lowD l ((q.length : Int) + 1)) (fun l hl2 K hK => ?_) hk
  obtain ⟨l0, l1⟩ := hr' l hl2
  walk_at "d"
  rw [List.length_map]
  exact ⟨l, _, rfl, l0, l1, by omega, wide_of (by omega), hK _ rfl⟩
end

/-! ### the type of a point -/
theorem put_in {kvs : List (Key × D)} {key : Key} (v : D) (m : key ∈ kvs.map Prod.fst) : (putD kvs key v).map Prod.fst = kvs.map Prod.fst := by
  unfold putD
  have c : (kvs.any fun kv => decide (kv.1 = key)) = true := by
    obtain ⟨p, h1, h2⟩ := List.mem_map.mp m
    exact List.any_eq_true.mpr ⟨p, h1, decide_eq_true h2⟩
  rw [if_pos c, List.map_map]
  refine List.map_congr_left fun p _ => ?_
  show (if p.1 = key then (p.1, v) else p).1 = p.1
  split <;> rfl
theorem put_out {kvs : List (Key × D)} {key : Key} (v : D) (m : key ∉ kvs.map Prod.fst) : (putD kvs key v).map Prod.fst = kvs.map Prod.fst ++ [key] := by
  unfold putD
  have c : ¬ (kvs.any fun kv => decide (kv.1 = key)) = true := fun z => by
    obtain ⟨p, h1, h2⟩ := List.any_eq_true.mp z
    exact m (List.mem_map.mpr ⟨p, h1, of_decide_eq_true h2⟩)
  rw [if_neg c, List.map_append]
  rfl
theorem val_put (key k2 : Key) (v : D) : ∀ kvs : List (Key × D), valD (putD kvs key v) k2 = if k2 = key then some v else valD kvs k2 := by
  intro kvs
  unfold putD
  by_cases c : (kvs.any fun kv => decide (kv.1 = key)) = true
  · rw [if_pos c]
    induction kvs with
    | nil => cases c
    | cons p r ih =>
      rw [List.map_cons]
      unfold valD
      by_cases e : p.1 = key
      · rw [if_pos e, List.find?_cons, List.find?_cons]
        by_cases f : k2 = key
        · rw [if_pos f, decide_eq_true (show p.1 = k2 by rw [e, f])]
          rfl
        · rw [if_neg f, decide_eq_false (show ¬ p.1 = k2 from fun z => f (z ▸ e))]
          have : ∀ r : List (Key × D), (r.map fun kv => if kv.1 = key then (kv.1, v) else kv).find? (fun kv => decide (kv.1 = k2)) = r.find? fun kv => decide (kv.1 = k2) := by
            intro r
            induction r with
            | nil => rfl
            | cons q s ih2 =>
              rw [List.map_cons, List.find?_cons, List.find?_cons]
              by_cases g : q.1 = key
              · rw [if_pos g, decide_eq_false (show ¬ q.1 = k2 from fun z => f (z ▸ g)), ih2]
              · rw [if_neg g]
                by_cases g2 : q.1 = k2
                · rw [decide_eq_true g2]
                · rw [decide_eq_false g2, ih2]
          rw [this]
      · rw [if_neg e]
        have c' : (r.any fun kv => decide (kv.1 = key)) = true := by
          rw [List.any_cons, decide_eq_false e, Bool.false_or] at c
          exact c
        have := ih c'
        unfold valD at this
        rw [List.find?_cons, List.find?_cons]
        by_cases g2 : p.1 = k2
        · rw [decide_eq_true g2, if_neg (fun z => e (g2.trans z))]
        · rw [decide_eq_false g2]
          exact this
  · rw [if_neg c]
    have no : ∀ p ∈ kvs, p.1 ≠ key := fun p h1 h2 => c (List.any_eq_true.mpr ⟨p, h1, decide_eq_true h2⟩)
    unfold valD
    rw [List.find?_append]
    by_cases f : k2 = key
    · rw [if_pos f, List.find?_eq_none.mpr fun p hp => by rw [decide_eq_false (fun z : p.1 = k2 => no p hp (z.trans f))]; exact Bool.false_ne_true, Option.none_or, List.find?_cons, decide_eq_true (show key = k2 from f.symm)]
      rfl
    · rw [if_neg f, List.find?_cons, decide_eq_false (show ¬ key = k2 from fun z => f z.symm), List.find?_nil, Option.or_none]
theorem insD_keys (W : Int) (ns : List Int) : ∃ l : List Int, ((insD W ns).map fun kv => dK kv.1) = l.map D.int ∧ l.Nodup ∧ ∀ k, k ∈ l ↔ k ∈ ns ∧ 0 < k ∧ k < W := by
  have go : ∀ (f : List Int) (acc : List (Key × D)) (l0 : List Int), acc.map Prod.fst = l0.map Sum.inl → l0.Nodup →
      ∃ l : List Int, (mergeD acc (f.map fun n => ((Sum.inl n : Key), D.bl true))).map Prod.fst = l.map Sum.inl ∧ l.Nodup ∧ ∀ k, k ∈ l ↔ k ∈ l0 ∨ k ∈ f := by
    intro f
    induction f with
    | nil => intro acc l0 h1 h2; exact ⟨l0, h1, h2, fun k => by simp⟩
    | cons n r ih =>
      intro acc l0 h1 h2
      by_cases c : n ∈ l0
      · have hk := put_in (kvs := acc) (key := Sum.inl n) (D.bl true) (by rw [h1]; exact List.mem_map_of_mem c)
        rw [h1] at hk
        obtain ⟨l, e1, e2, e3⟩ := ih _ l0 hk h2
        refine ⟨l, e1, e2, fun k => ?_⟩
        rw [e3, List.mem_cons]
        exact ⟨fun h => h.elim .inl fun h => .inr (.inr h), fun h => h.elim .inl fun h => h.elim (fun e => .inl (e ▸ c)) .inr⟩
      · have c' : (Sum.inl n : Key) ∉ l0.map Sum.inl := fun z => by
          obtain ⟨m, h3, h4⟩ := List.mem_map.mp z
          exact c (Sum.inl.inj h4 ▸ h3)
        have hk := put_out (kvs := acc) (key := Sum.inl n) (D.bl true) (by rw [h1]; exact c')
        rw [h1] at hk
        obtain ⟨l, e1, e2, e3⟩ := ih _ (l0 ++ [n]) (by rw [hk, List.map_append]; rfl) (List.nodup_append.mpr ⟨h2, by simp, fun a ha b hb e => c (by rw [← List.mem_singleton.mp hb, ← e]; exact ha)⟩)
        refine ⟨l, e1, e2, fun k => ?_⟩
        rw [e3, List.mem_append, List.mem_singleton, List.mem_cons, or_assoc]
  obtain ⟨l, h1, h2, h3⟩ := go (ns.filter fun n => decide (0 < n) && decide (n < W)) [] [] rfl List.nodup_nil
  refine ⟨l, ?_, h2, fun k => ?_⟩
  · have e : ((insD W ns).map fun kv => dK kv.1) = ((insD W ns).map Prod.fst).map dK := by rw [List.map_map]; rfl
    rw [e, show (insD W ns).map Prod.fst = l.map Sum.inl from h1, List.map_map]
    rfl
  · rw [h3, List.mem_filter]
    simp
theorem intsD_of (l : List Int) : intsD (l.map D.int) = some l := intsD_map l
def enI (inn : List Int) : List (Key × D) := ((List.range inn.length).zip inn).map fun p => ((Sum.inl p.2 : Key), D.int ((p.1 : Int) + 1))
theorem enI_keys (inn : List Int) : (enI inn).map Prod.fst = inn.map Sum.inl := by
  unfold enI
  rw [List.map_map]
  have : (Prod.fst ∘ fun p : Nat × Int => ((Sum.inl p.2 : Key), D.int ((p.1 : Int) + 1))) = Sum.inl ∘ Prod.snd := rfl
  rw [this, ← List.map_map, List.map_snd_zip (by rw [List.length_range]; exact Nat.le_refl _)]
theorem enI_at {inn : List Int} (nd : inn.Nodup) {n : Int} (h : n ∈ inn) : valD (enI inn) (.inl n) = some (.int ((inn.idxOf n : Nat) + 1)) := by
  have hi : inn.idxOf n < inn.length := List.idxOf_lt_length_of_mem h
  refine val_mem (by rw [enI_keys]; exact nd.map _ fun a b hne z => hne (Sum.inl.inj z)) ?_
  unfold enI
  refine List.mem_map.mpr ⟨(inn.idxOf n, n), ?_, rfl⟩
  rw [List.mem_iff_getElem]
  refine ⟨inn.idxOf n, by rw [List.length_zip, List.length_range]; omega, ?_⟩
  rw [List.getElem_zip, List.getElem_range, List.getElem_idxOf]
theorem lev_at {ns : List Int} {W top n : Int} (hW : 0 < W) (hn : n ∈ ns) (h0 : 0 ≤ n) (h1 : n ≤ W) : valD (putD (putD (enI (innF ns W)) (.inl 0) (.int 0)) (.inl W) (.int top)) (.inl n) = some (.int (lev (innF ns W) W top n)) := by
  rw [val_put, val_put]
  unfold lev
  by_cases c : n = 0
  · rw [if_neg (fun z => by have := Sum.inl.inj z; omega), if_pos (by rw [c]), if_pos c]
  · by_cases d : n = W
    · rw [if_pos (by rw [d]), if_neg c, if_pos d]
    · rw [if_neg (fun z => d (Sum.inl.inj z)), if_neg (fun z => c (Sum.inl.inj z)), if_neg c, if_neg d]
      exact enI_at (up_nodup innF_up) (innF_mem.mpr ⟨hn, by omega, by omega⟩)
theorem insO_len (n : Int) : ∀ l : List Int, (insO n l).length ≤ l.length + 1
  | [] => Nat.le_refl _
  | m :: r => by
    have := insO_len n r
    unfold insO
    split
    · exact Nat.le_refl _
    · split
      · exact Nat.le_succ _
      · show (insO n r).length + 1 ≤ r.length + 1 + 1
        omega
theorem sortO_len : ∀ l : List Int, (sortO l).length ≤ l.length
  | [] => Nat.le_refl _
  | m :: r => by
    have h1 := insO_len m (sortO r)
    have h2 := sortO_len r
    show (insO m (sortO r)).length ≤ r.length + 1
    omega
theorem innF_len (ns : List Int) (W : Int) : (innF ns W).length ≤ ns.length := Nat.le_trans (sortO_len _) (List.length_filter_le ..)
theorem enI_len (inn : List Int) : (enI inn).length = inn.length := by
  unfold enI
  rw [List.length_map, List.length_zip, List.length_range, Nat.min_self]
section
variable {P : Program} {w : World} {K : PySem.W.Frag} {mg : Str → Option Value} {base : Heap}
theorem sc_order_type_of : FnScope ["point", "whole", "numbers", "inner", "levels", "place", "at", "number"] ["point"] (defScope s_order_type_of) := ⟨rfl, rfl, rfl, by decide +kernel, rfl, by decide +kernel, by decide +kernel⟩
theorem ok_order_type_of (T : Txt P K mg) {k : Nat} : FnOk P w K mg base CX0 (k + 5) T.f_order_type_of T.d_order_type_of ["point"] (spPu K dTypeOf) := by
  refine T.F_order_type_of.ok sc_order_type_of (fun vs H Q E h => spPu_len (by rintro _ _ _ ⟨ps, rfl, hl, hp, hk⟩; rfl) h) (fun cdv A outer s H vs Q E hr h => ?_)
  have mark4 : DicMark 4 := ⟨⟩
  refine ⟨_, (pss_cons (ps_asg (pe_call (ok_numbers_for T) hr (by rfl) T.g_numbers_for T.F_numbers_for.kp T.b_numbers_for .nil pass0 (pa_cons (pe_listRg1 (by rfl) T.z_list (by rfl) T.z_range (pe_callB (len_seqK K) (by rfl) T.z_len (by decide +kernel) (pa_cons (pv 0) pa_nil))) (pa_cons (pv 0) pa_nil))) (pg_tup rfl (pgs_cons (pg_name (i := 1) sc_order_type_of.nd rfl (Or.inr rfl)) (pgs_cons (pg_name (i := 2) sc_order_type_of.nd rfl (Or.inr rfl)) pgs_nil))))
    (pss_cons (ps_set (i := 3) sc_order_type_of.nd rfl (Or.inl rfl) (pe_callB (cr_sortK K rfl) (by rfl) T.z_sorted (by decide +kernel) (pa_cons (pe_callTy (call_list_dK rfl) (by rfl) T.z_list (by decide +kernel) (pa_cons (pe_mono (t' := tInside 5 2 1) (pe_lock (pe_dc (own := [("place", 5)]) (g := (gName 5)) rfl sc_order_type_of.nd (pi_keys (pv 2)) (blkOk_by (N := ["point", "whole", "numbers", "inner", "levels", "place", "at", "number"]) (sc := defScope s_order_type_of) (by decide +kernel)) (fun _ _ _ _ _ => (pg_name (i := 5) sc_order_type_of.nd rfl (Or.inl rfl))) (fun _ _ _ _ _ => (pts_one (pt_chain op_lt op_lt pe_int (pe_dget (hu_of hr) (pv 2) (pv 5) (fun _ _ => rfl)) (pv 1)))) (fun _ _ _ _ _ => (pe_dget (hu_of hr) (pv 2) (pv 5) (fun _ _ => rfl))) (fun _ _ _ _ _ => pe_bl))) (fun _ _ _ z => inside_reads z)) pa_nil)) pa_nil)))
    (pss_cons (ps_set (i := 4) sc_order_type_of.nd rfl (Or.inr rfl) (pe_dc (own := [("at", 6), ("number", 7)]) (g := (gTup K 2 (gCons (gName 6) (gCons (gName 7) gNil)))) rfl sc_order_type_of.nd (pi_enum (by rfl) T.z_enumerate (pa_cons (pv 3) pa_nil)) (blkOk_by (N := ["point", "whole", "numbers", "inner", "levels", "place", "at", "number"]) (sc := defScope s_order_type_of) (by decide +kernel)) (fun _ _ _ _ _ => (pg_tup rfl (pgs_cons (pg_name (i := 6) sc_order_type_of.nd rfl (Or.inl rfl)) (pgs_cons (pg_name (i := 7) sc_order_type_of.nd rfl (Or.inl rfl)) pgs_nil)))) (fun _ _ _ _ _ => pts_nil) (fun _ _ _ _ _ => (pv 7)) (fun _ _ _ _ _ => (pe_op op_add (pv 6) pe_int))))
    (pss_cons (ps_dput (hu_of hr) (pv 4) pe_int pe_int rfl)
    (pss_cons (ps_dput (hu_of hr) (pv 4) (pv 1) (pe_op op_add (pe_callB (len_seqK K) (by rfl) T.z_len (by decide +kernel) (pa_cons (pv 0) pa_nil)) pe_int) rfl)
    (pss_one (ps_ret (pe_callTy (tuple_ofK K) (by rfl) T.z_tuple (by decide +kernel) (pa_cons (pe_lc (own := [("place", 5)]) (g := (gName 5)) rfl sc_order_type_of.nd (pi_range1 rfl T.z_range (pa_cons (pe_callB (len_seqK K) (by rfl) T.z_len (by decide +kernel) (pa_cons (pv 0) pa_nil)) pa_nil)) (blkOk_by (N := ["point", "whole", "numbers", "inner", "levels", "place", "at", "number"]) (sc := defScope s_order_type_of) (by decide +kernel)) (fun _ _ _ _ _ => (pg_name (i := 5) sc_order_type_of.nd rfl (Or.inl rfl))) (fun _ _ _ _ _ => pts_nil) (fun _ _ _ _ _ => (pe_dget (hu_of hr) (pv 4) (pe_dget (hu_of hr) (pv 2) (pv 5) (fun _ _ => rfl)) (fun _ _ => rfl)))) pa_nil))))))))), ?_⟩
  try dsimp only [L2.cxOf, L2.Cx.nox]
  refine' enterP h (fun S mo => ?sim) ?go
  (case sim => walk_at "sim")
  rintro ds kt kx ⟨ps, rfl, hl, hp, hk⟩
  have lp : 0 < lcmP ps := lcmF_pos ps 1 (by decide) fun p m => (hp.1 p m).2.2.1
  have er : rangeD 0 ps.length = ((List.range ps.length).map fun i : Nat => (Sum.inl (i : Int) : Key)).map dK := by
    unfold rangeD
    rw [List.map_map]
    refine List.map_congr_left fun i _ => ?_
    show D.int (0 + (i : Int)) = .int (i : Int)
    rw [Int.zero_add]
  have kn : ((List.range ps.length).map fun i : Nat => (Sum.inl (i : Int) : Key)).Nodup := List.nodup_range.map _ fun a b hne z => hne (by have := Sum.inl.inj z; omega)
  have kl : ps.length = ((List.range ps.length).map fun i : Nat => (Sum.inl (i : Int) : Key)).length := by rw [List.length_map, List.length_range]
  walk_at "d"
  rw [List.length_map]
  refine ⟨by omega, by omega, ?_⟩
  rw [show ((ps.length : Int)).toNat = ps.length from Int.toNat_natCast _, er]
  refine ⟨_, _, ps, rfl, .inr rfl, kn, kl, hp, ?_⟩
  walk_at "d"
  refine ⟨by decide, numL ps, numsD_vals kl, by rw [numsD_keys kl]; exact kn, by rw [numsD_len kl, ← kl]; omega, ?_⟩
  obtain ⟨l, e1, e2, e3⟩ := insD_keys (lcmP ps : Nat) (numL ps)
  rw [e1]
  refine ⟨l, intsD_of l, fun out p1 p2 => ?_⟩
  have oe : out = innF (numL ps) (lcmP ps : Nat) := up_one (lt_of_le_nodup out p2 (p1.nodup_iff.mpr e2)) innF_up fun k => by rw [p1.mem_iff, e3, innF_mem]
  subst oe
  rw [enum_map]
  refine dcMM _ (fun p => .inl p.2) (fun p => .int ((p.1 : Int) + 1)) (fun p hpm K hK => ?_) ?_
  · walk_at "d"
    exact hK _ rfl
  have mE : mergeD [] (((List.range (innF (numL ps) (lcmP ps : Nat)).length).zip (innF (numL ps) (lcmP ps : Nat))).map fun p => ((Sum.inl p.2 : Key), D.int ((p.1 : Int) + 1))) = enI (innF (numL ps) (lcmP ps : Nat)) := by
    show mergeD [] (enI _) = _
    rw [merge_new (by rw [enI_keys]; exact (up_nodup innF_up).map _ fun a b hne z => hne (Sum.inl.inj z)) (acc := []) (fun _ _ q hq => nomatch hq), List.nil_append]
  rw [mE]
  walk_at "d"
  have l1 := innF_len (numL ps) (lcmP ps : Nat)
  rw [numL_len] at l1
  have l2 := putD_len (enI (innF (numL ps) (lcmP ps : Nat))) (Sum.inl 0) (D.int 0)
  rw [enI_len] at l2 ⊢
  rw [List.length_map, show ((ps.length : Int)).toNat = ps.length from Int.toNat_natCast _]
  refine ⟨by omega, by omega, by omega, by omega, ?_⟩
  unfold rangeD
  have gD : ∀ i, i < ps.length → (numL ps).getD i 0 ∈ numL ps := fun i hi => by
    rw [List.getD_eq_getElem?_getD, List.getElem?_eq_getElem (by rw [numL_len]; exact hi)]
    exact List.getElem_mem _
  refine dlcMM (fun i : Nat => D.int (0 + (i : Int))) (fun i : Nat => D.int (lev (innF (numL ps) (lcmP ps : Nat)) (lcmP ps : Nat) ((ps.length : Int) + 1) ((numL ps).getD i 0))) (fun i hi K hK => ?_) ?_
  · have hi : i < ps.length := List.mem_range.mp hi
    obtain ⟨b0, b1⟩ := numL_in hp _ (gD i hi)
    have v1 : valD (numsD ((List.range ps.length).map fun i : Nat => (Sum.inl (i : Int) : Key)) ps) (.inl (0 + (i : Int))) = some (.int ((numL ps).getD i 0)) := by
      have := numsD_at kn kl i (by rw [← kl]; exact hi)
      rw [List.getElem_map, List.getElem_range] at this
      rw [Int.zero_add]
      exact this
    have v2 := lev_at (ns := numL ps) (W := (lcmP ps : Nat)) (top := (ps.length : Int) + 1) (by omega) (gD i hi) b0 b1
    walk_at "d"
    rw [v1]
    dsimp only
    rw [v2]
    exact hK _ rfl
  · have e : ((List.range ps.length).map fun i : Nat => D.int (lev (innF (numL ps) (lcmP ps : Nat)) (lcmP ps : Nat) ((ps.length : Int) + 1) ((numL ps).getD i 0))) = (typF (numL ps) (lcmP ps : Nat)).map D.int := by
      unfold typF
      rw [List.map_map, numL_len]
      refine List.ext_getElem (by rw [List.length_map, List.length_map, List.length_range, numL_len]) fun i h1 h2 => ?_
      rw [List.getElem_map, List.getElem_map, List.getElem_range]
      rw [List.length_map] at h2
      rw [List.getD_eq_getElem?_getD, List.getElem?_eq_getElem h2]
      rfl
    rw [e]
    exact hk
end

/-! ### the draws -/
def spDraw : Sp := fun vs H Q _ => ∃ (m : Addr) (n : Nat) (below : Int), vs = [.ref m, .int below] ∧ MAt H m n ∧ n ≤ 1000000 ∧ 0 < below ∧ below < 2 ^ 1000 ∧
  ∀ (r : Int) (H' : Hp), 0 ≤ r → r < below → Kp m H H' → MAt H' m (n + 1) → Q (.int r) H'
def spDrawC : Sp := fun vs H Q _ => ∃ (m : Addr) (n : Nat) (below : Int), vs = [.ref m, .int below] ∧ MAt H m n ∧ n ≤ 1000000 ∧ 0 < below ∧ below < 2 ^ 1000 ∧
  ∀ (r : Int) (H' : Hp), 0 ≤ r → r < below → Kp m H H' → MAt H' m (n + 1) → (∀ c, Cel H m c → Cel H' m c) → Q (.int r) H'
section
variable {P : Program} {w : World} {K : PySem.W.Frag} {mg : Str → Option Value} {base : Heap}
theorem sc_law_draw : FnScope ["m", "below", "found", "spot", "cells", "added", "cell", "blend"] ["m", "below"] (defScope s_law_draw) := ⟨rfl, rfl, rfl, by decide +kernel, rfl, by decide +kernel, by decide +kernel⟩
theorem ok_law_drawC (T : Txt P K mg) {k : Nat} : FnOk P w K mg base CX0 (k + 1) T.f_law_draw T.d_law_draw ["m", "below"] spDrawC := by
  refine T.F_law_draw.ok sc_law_draw (fun vs H Q E h => ?_) (fun cdv A outer s H vs Q E hr h => ?_)
  · obtain ⟨m, n, below, rfl, _⟩ := h
    rfl
  obtain ⟨m, n, below, rfl, ⟨l, sd, p, c, cs, a1, a2, a3, a4, a5, a6, a7, a8, a9⟩, hn, hb, hb2, q⟩ := h
  refine ⟨_, (pss_cons (ps_if (pt_cmpR op_gt (pe_dget (hu_of hr) (pv 0) pe_str (fun _ _ => rfl)) pe_int (by rfl)) (pss_cons (ps_set (i := 2) sc_law_draw.nd rfl (Or.inl rfl) (pe_op op_mod (pe_callTy call_int1 (by rfl) T.z_int (by decide +kernel) (pa_cons (pe_dget (hu_of hr) (pv 0) pe_str (fun _ _ => rfl)) pa_nil)) (pv 1)))
    (pss_cons (ps_dput (hu_of hr) (pv 0) pe_str (pe_op op_fdivW (pe_dget (hu_of hr) (pv 0) pe_str (fun _ _ => rfl)) (pv 1)) rfl)
    (pss_one (ps_ret (pv 2))))) pss_nil)
    (pss_cons (ps_set (i := 3) sc_law_draw.nd rfl (Or.inl rfl) (pe_dget (hu_of hr) (pv 0) pe_str (fun _ _ => rfl)))
    (pss_cons (ps_dput (hu_of hr) (pv 0) pe_str (pe_op op_add (pv 3) pe_int) rfl)
    (pss_cons (ps_par (i := 4) (j := 5) (by rfl) sc_law_draw.nd rfl rfl (by decide) rfl rfl (pa_cons (pe_dget (hu_of hr) (pv 0) pe_str (fun _ _ => rfl)) (pa_cons (pe_op op_add (pe_dget (hu_of hr) (pv 0) pe_str (fun _ _ => rfl)) (pe_op op_mul (pe_op op_mul pe_int (pv 3)) (pv 3))) pa_nil)) (by rfl))
    (pss_cons (ps_set (i := 6) sc_law_draw.nd rfl (Or.inl rfl) (pe_ix (ix_listK K) (pv 4) (pe_op op_mod (pe_callTy call_int1 (by rfl) T.z_int (by decide +kernel) (pa_cons (pv 3) pa_nil)) (pe_callB (len_seqK K) (by rfl) T.z_len (by decide +kernel) (pa_cons (pv 4) pa_nil))) (fun _ _ => rfl)))
    (pss_cons (ps_set (i := 7) sc_law_draw.nd rfl (Or.inl rfl) (pe_op op_mod (pe_callTy call_int1 (by rfl) T.z_int (by decide +kernel) (pa_cons (pe_op op_add (pe_op op_mul (pv 6) (pe_op op_add (pe_op op_mul pe_int (pv 3)) pe_int)) (pv 5)) pa_nil)) pe_int))
    (pss_cons (ps_set (i := 7) sc_law_draw.nd rfl (Or.inl rfl) (pe_op op_mod (pe_callTy call_int1 (by rfl) T.z_int (by decide +kernel) (pa_cons (pe_op op_add (pe_op op_add (pe_op op_mul (pv 7) (pv 7)) (pe_op op_mul pe_int (pv 3))) (pe_dget (hu_of hr) (pv 0) pe_str (fun _ _ => rfl))) pa_nil)) pe_int))
    (pss_one (ps_ret (pe_op op_mod (pe_op op_fdiv (pe_op op_mod (pe_callTy call_int1 (by rfl) T.z_int (by decide +kernel) (pa_cons (pe_op op_add (pe_op op_mul (pv 7) pe_int) (pv 3)) pa_nil)) pe_int) pe_int) (pv 1))))))))))), ?_⟩
  try dsimp only [L2.cxOf, L2.Cx.nox]
  walk_at "rd"
  refine rd_dgetK a1 val_left ?_
  walk_at "rd"
  refine rd_two (fun cl => ?_) (fun cl => ?_)
  · walk_at "rd"
    refine rd_dgetK a1 val_left ?_
    walk_at "rd"
    refine rd_dgetK a1 val_left ?_
    walk_at "rd"
    refine rd_i (wide_div hb (b := 1000) (by omega) (by decide) (by decide)) ?_
    walk_at "rd"
    refine rd_dputK a1 put_left (show 4 < 1000000 by decide) ?_
    walk_at "rd"
    refine q _ _ (Int.emod_nonneg _ (by omega)) (Int.emod_lt_of_pos _ hb) (Kp.at _) ?_ (fun c' h' => by rw [← h'.eq a1]; exact ⟨_, _, _, upd_same⟩)
    exact ⟨_, sd, p, c, cs, upd_same, (by rw [upd_ne (ne_of a2 a1 (fun z => nomatch z))]; exact a2), a3, a4, Int.ediv_nonneg a5 (by omega), a6, a7, a8, by omega⟩
  · walk_at "rd"
    refine rd_dgetK a1 val_spot ?_
    walk_at "rd"
    refine rd_dputK a1 put_spot (show 4 < 1000000 by decide) ?_
    have b1 : (upd H m (.dK (mk l sd c (p + 1)))) m = some (.dK (mk l sd c (p + 1))) := upd_same
    have b2 : (upd H m (.dK (mk l sd c (p + 1)))) c = some (.lst (cs.map V.int)) := by
      rw [upd_ne (ne_of a2 a1 (fun z => nomatch z))]
      exact a2
    walk_at "rd"
    refine rd_dgetK b1 val_cells ?_
    walk_at "rd"
    refine rd_dgetK b1 val_seed ?_
    walk_at "rd"
    refine rd_len (.inl (sqL b2)) ?_
    have h0 : 0 < cs.length := List.length_pos_iff.mpr a3
    have h1 : 0 < (cs.map V.int).length := by rw [List.length_map]; exact h0
    walk_at "rd"
    obtain ⟨z, hz⟩ : ∃ z : Int, atI (cs.map V.int) (p % ((cs.map V.int).length : Int)) = some (.int z) := by
      obtain ⟨v, e, hm⟩ := atI_mod (xs := cs.map V.int) p (fun z => a3 (List.map_eq_nil_iff.mp z))
      obtain ⟨z, _, rfl⟩ := List.mem_map.mp hm
      exact ⟨z, e⟩
    refine rd_ixL (sqL b2) hz ?_
    walk_at "rd"
    refine rd_dgetK b1 val_seed ?_
    walk_at "rd"
    refine q _ _ (Int.emod_nonneg _ (by omega)) (Int.emod_lt_of_pos _ hb) (Kp.at _) ?_ (fun c' h' => by rw [← h'.eq a1]; exact ⟨_, _, _, upd_same⟩)
    exact ⟨l, sd, p + 1, c, cs, b1, b2, a3, a4, a5, a6, a7, by omega, by omega⟩
end
def dDraw : SpM := fun n ds k _ => ∃ below : Int, ds = [.st, .int below] ∧ n ≤ 1000000 ∧ 0 < below ∧ below < 2 ^ 1000 ∧ ∀ r : Int, 0 ≤ r → r < below → k (.int r) (n + 1)
section
variable {P : Program} {w : World} {K : PySem.W.Frag} {mg : Str → Option Value} {base : Heap}
theorem ok_law_draw (T : Txt P K mg) {k : Nat} : FnOk P w K mg base CX0 (k + 1) T.f_law_draw T.d_law_draw ["m", "below"] (spSt K dDraw) :=
  FnOk_weak (ok_law_drawC T) fun vs H Q E h => by
    obtain ⟨S, m, n, ds, k, kx, sh, sm, ma, ce, hd', ⟨below, rfl, hn, b0, b1, hk⟩, q, qx⟩ := h
    cases hd' with
    | cons a1 r1 =>
      cases a1 with
      | st em =>
        obtain rfl := Option.some.inj em
        cases r1 with
        | cons a2 r2 =>
          cases a2
          cases r2
          refine ⟨_, n, below, rfl, ma, hn, b0, b1, fun r H' r0 r1 kp m' c' => q (.int r) (n + 1) (.int r) H' S (hk r r0 r1) ⟨kp, Same.refl _, fun a o h => kp a o (fun z => by rw [z, sm] at h; cases h) (sh a o h), fun a _ h => h, fun h => h⟩ m' c' (.int r)⟩
def dOf : SpM := fun n ds k _ => ∃ xs : List D, ds = [.st, .lst xs] ∧ n ≤ 999999 ∧ xs ≠ [] ∧ xs.length ≤ 1000 ∧ ∀ y ∈ xs, k y (n + 1)
theorem sc_law_of : FnScope ["m", "some"] ["m", "some"] (defScope s_law_of) := ⟨rfl, rfl, rfl, by decide +kernel, rfl, by decide +kernel, by decide +kernel⟩
theorem ok_law_of (T : Txt P K mg) {k : Nat} : FnOk P w K mg base CX0 (k + 2) T.f_law_of T.d_law_of ["m", "some"] (spSt K dOf) := by
  refine T.F_law_of.ok sc_law_of (fun vs H Q E h => spSt_len (by rintro _ _ _ _ ⟨xs, rfl, hn, hx, hl, hk⟩; rfl) h) (fun cdv A outer s H vs Q E hr h => ?_)
  refine ⟨_, (pss_one (ps_ret (pe_ix (ix_listK K) (pv 1) (pe_call (ok_law_draw T) hr (by rfl) T.g_law_draw T.F_law_draw.kp T.b_law_draw .nil pass0 (pa_cons (pv 0) (pa_cons (pe_callB (len_seqK K) (by rfl) T.z_len (by decide +kernel) (pa_cons (pv 1) pa_nil)) pa_nil))) (fun _ _ => rfl)))), ?_⟩
  try dsimp only [L2.cxOf, L2.Cx.nox]
  refine' enterM h (fun S mo => ?sim) ?go
  (case sim => walk_at "sim")
  rintro n0 ds kt kx ⟨xs, rfl, hn, hx, hl, hk⟩
  walk_at "d"
  have h0 : 0 < xs.length := List.length_pos_iff.mpr hx
  refine ⟨_, rfl, by omega, by omega, Int.lt_of_le_of_lt (show (xs.length : Int) ≤ 1000 by omega) (by decide), fun r r0 r1 => ?_⟩
  walk_at "d"
  obtain ⟨v, e, _, hv⟩ := atI_in (xs := xs) r0 r1
  rw [e]
  exact hk v hv
end

/-! ### data that shows well -/
def Sh (x : D) : Prop := x.plain = true ∧ x.py.showable = true ∧ x.py.hasDict = false ∧ x.py.depth ≤ 150 ∧ x.py.shown.length ≤ sizeLine
theorem sh_of {x : D} (p : x.plain = true) (h : smallD x.py = true) (hb : x.py.bulk ≤ 1000000) (dp : x.py.depth ≤ 150) : Sh x :=
  ⟨p, small_show _ h, PyData.hasDict_of_canLay _ (small_lay _ h), dp, PyData.shown_fits_bulk (B := 13) (by decide) (by decide) (PyData.leavesShort_of_canLay0 13 _ (small_lay _ h) (small_ints _ h)) (Nat.le_trans hb (by decide))⟩
theorem sh_non : Sh .non := sh_of rfl rfl (by decide) (by decide)
theorem sh_bl (b : Bool) : Sh (.bl b) := by cases b <;> exact sh_of rfl rfl (by decide) (by decide)
theorem sh_int {i : Int} (h : i.natAbs < 10 ^ 11) : Sh (.int i) := by
  refine sh_of rfl (by show smallD (.int i) = true; rw [smallD, decide_eq_true_eq]; exact h) ?_ ?_
  · show PyData.bulk (.int i) ≤ _
    rw [PyData.bulk]; decide
  · show PyData.depth (.int i) ≤ _
    rw [PyData.depth]; decide
theorem py_ints (l : List Int) : pyAll (l.map D.int) = l.map PyData.int := by
  induction l with
  | nil => rfl
  | cons x r ih => rw [List.map_cons, List.map_cons, pyAll, ih]; rfl
theorem plain_ints (l : List Int) : plainAll (l.map D.int) = true := by
  induction l with
  | nil => rfl
  | cons x r ih => rw [List.map_cons, plainAll, ih]; rfl
theorem shaped_ints (l : List Int) (h : ∀ x ∈ l, x.natAbs < 10 ^ 11) : SeqAt.shaped (D.lst (l.map D.int)).py = true := by
  show SeqAt.shaped (.list (pyAll (l.map D.int))) = true
  rw [py_ints]
  refine small_shaped ?_ ?_
  · rw [smallD]; exact small_intL l h
  · rw [PyData.depth, depth_intL]; decide
theorem eqv_nil (l : List Int) : (D.lst (l.map D.int)).py.eqv (D.lst []).py = l.isEmpty := by
  cases l with
  | nil => rfl
  | cons x r => rfl
theorem eq_self_not {α : Type} [DecidableEq α] (a : α) : ¬ (!decide (a = a)) = true := by simp
theorem shaped_one (t : Str) (i : Int) (ht : PyData.strOk t = true) : SeqAt.shaped (D.tup [.str t, .int i]).py = true := by
  show (PyData.canLay0 (.tuple [.str t, .int i]) && decide (PyData.depth (.tuple [.str t, .int i]) ≤ 64)) = true
  simp [PyData.canLay0, PyData.canLayAll0, PyData.depth, PyData.depthAll, ht]
theorem shaped_two (t u : Str) (ht : PyData.strOk t = true) (hu : PyData.strOk u = true) : SeqAt.shaped (D.tup [.str t, .str u]).py = true := by
  refine small_shaped ?_ ?_
  · show smallD (.tuple [.str t, .str u]) = true
    rw [smallD, smallDs, smallDs, smallDs, smallD, smallD, ht, hu]; rfl
  · show PyData.depth (.tuple [.str t, .str u]) ≤ 64
    simp [PyData.depth, PyData.depthAll]
theorem eqv_one (t : Str) (i : Int) : (D.tup [.str t, .int i]).py.eqv (D.tup [.str t, .int i]).py = true := by
  show PyData.eqv (.tuple [.str t, .int i]) (.tuple [.str t, .int i]) = true
  simp [PyData.eqv, PyData.eqvAll]
theorem eqv_two (t u : Str) : (D.tup [.str t, .str u]).py.eqv (D.tup [.str t, .str u]).py = true := by
  show PyData.eqv (.tuple [.str t, .str u]) (.tuple [.str t, .str u]) = true
  simp [PyData.eqv, PyData.eqvAll]

/-! ### data with great numbers shows well -/
theorem big_le : 10 ^ 480 ≤ 2 ^ 1920 := by
  rw [show 1920 = 4 * 480 from rfl, Nat.pow_mul]
  exact Nat.pow_le_pow_left (by decide) 480
mutual
def bigD : PyData → Bool
  | .none => true
  | .bool _ => true
  | .int i => decide (i.natAbs < 10 ^ 480)
  | .str x => PyData.strOk x
  | .list xs => bigDs xs
  | .tuple xs => bigDs xs
  | .dict _ => false
def bigDs : List PyData → Bool
  | [] => true
  | x :: xs => bigD x && bigDs xs
end
mutual
theorem big_lay : ∀ d : PyData, bigD d = true → d.canLay0 = true
  | .none, _ => rfl
  | .bool _, _ => rfl
  | .int _, _ => rfl
  | .str x, h => by rw [bigD] at h; rw [PyData.canLay0]; exact h
  | .list xs, h => by rw [bigD] at h; rw [PyData.canLay0]; exact bigs_lay xs h
  | .tuple xs, h => by rw [bigD] at h; rw [PyData.canLay0]; exact bigs_lay xs h
  | .dict _, h => by rw [bigD] at h; cases h
theorem bigs_lay : ∀ xs : List PyData, bigDs xs = true → PyData.canLayAll0 xs = true
  | [], _ => rfl
  | x :: xs, h => by
    rw [bigDs, Bool.and_eq_true] at h
    rw [PyData.canLayAll0, big_lay x h.1, bigs_lay xs h.2]
    rfl
end
theorem big_int_len (i : Int) (h : i.natAbs < 10 ^ 480) : (PyData.shown (.int i)).length ≤ 481 := by
  rw [PyData.shown]
  have := int_text_length_le10 (k := 480) (by decide) h
  rw [PySem.ofString_length]
  exact this
mutual
theorem big_ints : ∀ d : PyData, bigD d = true → d.intsShort 481 = true
  | .none, _ => rfl
  | .bool _, _ => rfl
  | .int i, h => by
    rw [bigD, decide_eq_true_eq] at h
    rw [PyData.intsShort, decide_eq_true_eq]
    exact big_int_len i h
  | .str x, h => rfl
  | .list xs, h => by rw [bigD] at h; rw [PyData.intsShort]; exact bigs_ints xs h
  | .tuple xs, h => by rw [bigD] at h; rw [PyData.intsShort]; exact bigs_ints xs h
  | .dict _, h => rfl
theorem bigs_ints : ∀ xs : List PyData, bigDs xs = true → PyData.intsShortAll 481 xs = true
  | [], _ => rfl
  | x :: xs, h => by
    rw [bigDs, Bool.and_eq_true] at h
    rw [PyData.intsShortAll, big_ints x h.1, bigs_ints xs h.2]
    rfl
end
mutual
theorem big_show : ∀ d : PyData, bigD d = true → d.showable = true
  | .none, _ => rfl
  | .bool _, _ => rfl
  | .int i, h => by
    rw [bigD, decide_eq_true_eq] at h
    rw [PyData.showable, decide_eq_true_eq]
    by_cases z : i.natAbs = 0
    · rw [z]; decide
    · refine (Nat.log2_lt z).mpr (Nat.lt_of_lt_of_le h ?_)
      exact Nat.le_trans big_le (Nat.pow_le_pow_right (by decide) (by decide))
  | .str x, h => rfl
  | .list xs, h => by rw [bigD] at h; rw [PyData.showable]; exact bigs_show xs h
  | .tuple xs, h => by rw [bigD] at h; rw [PyData.showable]; exact bigs_show xs h
  | .dict _, h => by rw [bigD] at h; cases h
theorem bigs_show : ∀ xs : List PyData, bigDs xs = true → PyData.showableAll xs = true
  | [], _ => rfl
  | x :: xs, h => by
    rw [bigDs, Bool.and_eq_true] at h
    rw [PyData.showableAll, big_show x h.1, bigs_show xs h.2]
    rfl
end
theorem sh_big {x : D} (p : x.plain = true) (h : bigD x.py = true) (hb : x.py.bulk ≤ 10000) (dp : x.py.depth ≤ 150) : Sh x := by
  refine ⟨p, big_show _ h, PyData.hasDict_of_canLay _ (big_lay _ h), dp, ?_⟩
  have := PyData.shown_le_bulk 481 (by decide) x.py (PyData.leavesShort_of_canLay0 481 x.py (big_lay _ h) (big_ints _ h))
  rw [sizeLine_eq]
  omega
/-- data that is small and has no number over 10 ^ 480 -/
def Bg (b d : Nat) (x : D) : Prop := x.plain = true ∧ bigD x.py = true ∧ x.py.bulk ≤ b ∧ x.py.depth ≤ d
theorem Bg.le {b d b' d' : Nat} {x : D} (h : Bg b d x) (e : b ≤ b') (e' : d ≤ d') : Bg b' d' x := ⟨h.1, h.2.1, Nat.le_trans h.2.2.1 e, Nat.le_trans h.2.2.2 e'⟩
theorem sh_bg {b d : Nat} {x : D} (h : Bg b d x) (hb : b ≤ 10000) (hd : d ≤ 150) : Sh x := sh_big h.1 h.2.1 (Nat.le_trans h.2.2.1 hb) (Nat.le_trans h.2.2.2 hd)
theorem bg_all {b d : Nat} {xs : List D} (h : ∀ x ∈ xs, Bg b d x) : plainAll xs = true ∧ bigDs (pyAll xs) = true ∧ PyData.bulkAll (pyAll xs) ≤ xs.length * (b + 1) ∧ PyData.depthAll (pyAll xs) ≤ d := by
  induction xs with
  | nil => exact ⟨rfl, rfl, Nat.zero_le _, Nat.zero_le _⟩
  | cons x r ih =>
    obtain ⟨h1, h2, h3, h4⟩ := ih fun q m => h q (List.mem_cons_of_mem _ m)
    obtain ⟨g1, g2, g3, g4⟩ := h x List.mem_cons_self
    rw [pyAll]
    refine ⟨by rw [plainAll, g1, h1]; rfl, by rw [bigDs, g2, h2]; rfl, ?_, ?_⟩
    · rw [PyData.bulkAll, List.length_cons, Nat.succ_mul]
      omega
    · rw [PyData.depthAll]
      omega
theorem bg_tup {b d : Nat} {xs : List D} (h : ∀ x ∈ xs, Bg b d x) : Bg (xs.length * (b + 1)) (d + 1) (.tup xs) := by
  obtain ⟨h1, h2, h3, h4⟩ := bg_all h
  refine ⟨h1, ?_, ?_, ?_⟩
  · show bigD (.tuple _) = true
    rw [bigD]; exact h2
  · show PyData.bulk (.tuple _) ≤ _
    rw [PyData.bulk]; exact h3
  · show PyData.depth (.tuple _) ≤ _
    rw [PyData.depth]; omega
theorem bg_lst {b d : Nat} {xs : List D} (h : ∀ x ∈ xs, Bg b d x) : Bg (xs.length * (b + 1)) (d + 1) (.lst xs) := by
  obtain ⟨h1, h2, h3, h4⟩ := bg_all h
  refine ⟨h1, ?_, ?_, ?_⟩
  · show bigD (.list _) = true
    rw [bigD]; exact h2
  · show PyData.bulk (.list _) ≤ _
    rw [PyData.bulk]; exact h3
  · show PyData.depth (.list _) ≤ _
    rw [PyData.depth]; omega
theorem bg_int {i : Int} (h : i.natAbs < 10 ^ 480) : Bg 0 0 (.int i) := by
  refine ⟨rfl, ?_, ?_, ?_⟩
  · show bigD (.int i) = true
    rw [bigD, decide_eq_true h]
  · show PyData.bulk (.int i) ≤ 0
    rw [PyData.bulk]; exact Nat.le_refl _
  · show PyData.depth (.int i) ≤ 0
    rw [PyData.depth]; exact Nat.le_refl _
theorem bg_str {x : Str} (h : PyData.strOk x = true) (hl : x.length ≤ 8) : Bg 8 0 (.str x) := by
  refine ⟨rfl, ?_, ?_, ?_⟩
  · show bigD (.str x) = true
    rw [bigD]; exact h
  · show PyData.bulk (.str x) ≤ 8
    rw [PyData.bulk]; exact hl
  · show PyData.depth (.str x) ≤ 0
    rw [PyData.depth]; exact Nat.le_refl _
theorem ten15 {i : Int} {n : Nat} (h : i.natAbs ≤ n * 10 ^ 15) (hn : n ≤ 1000) : i.natAbs < 10 ^ 480 := by
  refine Nat.lt_of_le_of_lt h (Nat.lt_of_le_of_lt (Nat.mul_le_mul_right _ hn) ?_)
  exact Nat.lt_of_lt_of_le (show 1000 * 10 ^ 15 < 10 ^ 19 by decide) (Nat.pow_le_pow_right (by decide) (by decide))

/-! ### a drawn saying, over data -/
theorem mk6_of' {y : D} (h : y ∈ ([.str "plus", .str "times", .str "leads", .str "and", .str "or", .str "same", .str "plus", .str "times", .str "leads"] : List D)) : ∃ k : Mk6, y = .str k.str := by
  simp only [List.mem_cons, List.not_mem_nil, or_false] at h
  rcases h with h | h | h | h | h | h | h | h | h <;> subst h <;> first | exact ⟨.plus, rfl⟩ | exact ⟨.times, rfl⟩ | exact ⟨.leads, rfl⟩ | exact ⟨.and, rfl⟩ | exact ⟨.or, rfl⟩ | exact ⟨.same, rfl⟩
def dSaying (n : Nat) : SpM := fun c ds k _ => ∃ (names : List Str) (size : Nat), ds = [.st, .lst (names.map .str), .int (size : Int)] ∧ c + 10 * (2 * size + 1) ≤ 900000 ∧ names ≠ [] ∧ names.length ≤ 100 ∧ size < n ∧
  ∀ (s : Say) (c' : Nat), c' ≤ c + 10 * (2 * size + 1) → (∀ x ∈ s.leaves, x ∈ names) → s.marks = size → s.depth ≤ 2 * size + 1 → s.words ≤ 4 * size + 2 → k (Sd s) c'
section
variable {P : Program} {w : World} {K : PySem.W.Frag} {mg : Str → Option Value} {base : Heap}
theorem sc_law_saying : FnScope ["m", "names", "size", "way", "made", "left", "mark", "first"] ["m", "names", "size"] (defScope s_law_saying) := ⟨rfl, rfl, rfl, by decide +kernel, rfl, by decide +kernel, by decide +kernel⟩
theorem ok_law_saying_n (T : Txt P K mg) {k : Nat} : ∀ n : Nat, FnOk P w K mg base CX0 (k + n + 3) T.f_law_saying T.d_law_saying ["m", "names", "size"] (spSt K (dSaying n))
  | 0 => by
    have no : ∀ vs H Q E, ¬ (spSt K (dSaying 0)) vs H Q E := fun vs H Q E h => by
      obtain ⟨S, m, n, ds, k, kx, _, _, _, _, _, hk, _⟩ := h
      obtain ⟨names, size, _, hc, hx, hl, hs, hk⟩ := hk
      omega
    exact ⟨fun vs H Q E h => absurd h (no vs H Q E), fun A outer s H args us vs Q E _ _ _ _ h => absurd h (no vs H Q E)⟩
  | n + 1 => by
    have ih := ok_law_saying_n T (k := k) n
    refine T.F_law_saying.ok sc_law_saying (fun vs H Q E h => spSt_len (by rintro _ _ _ _ ⟨names, size, rfl, hc, hx, hl, hs, hk⟩; rfl) h) (fun cdv A outer s H vs Q E hr h => ?_)
    refine ⟨_, (pss_cons (ps_if (pt_cmpR op_eq (pv 2) pe_int (by rfl)) (pss_cons (ps_set (i := 3) sc_law_saying.nd rfl (Or.inl rfl) (pe_call (ok_law_draw T) hr (by rfl) T.g_law_draw T.F_law_draw.kp T.b_law_draw .nil pass0 (pa_cons (pv 0) (pa_cons pe_int pa_nil))))
    (pss_one (ps_set (i := 4) sc_law_saying.nd rfl (Or.inl rfl) (pe_ifExp (pt_cmpR op_eq (pv 3) pe_int (by rfl)) (pe_tup (pa_cons pe_str pa_nil)) (pe_ifExp (pt_cmpR op_eq (pv 3) pe_int (by rfl)) (pe_tup (pa_cons pe_str pa_nil)) (pe_tup (pa_cons pe_str (pa_cons (pe_call (ok_law_of T) hr (by rfl) T.g_law_of T.F_law_of.kp T.b_law_of .nil pass0 (pa_cons (pv 0) (pa_cons (pv 1) pa_nil))) pa_nil)))))))) (pss_cons (ps_set (i := 5) sc_law_saying.nd rfl (Or.inl rfl) (pe_call (ok_law_draw T) hr (by rfl) T.g_law_draw T.F_law_draw.kp T.b_law_draw .nil pass0 (pa_cons (pv 0) (pa_cons (pv 2) pa_nil))))
    (pss_cons (ps_set (i := 6) sc_law_saying.nd rfl (Or.inl rfl) (pe_call (ok_law_of T) hr (by rfl) T.g_law_of T.F_law_of.kp T.b_law_of .nil pass0 (pa_cons (pv 0) (pa_cons (pe_lst (pa_cons pe_str (pa_cons pe_str (pa_cons pe_str (pa_cons pe_str (pa_cons pe_str (pa_cons pe_str (pa_cons pe_str (pa_cons pe_str (pa_cons pe_str pa_nil)))))))))) pa_nil))))
    (pss_cons (ps_set (i := 7) sc_law_saying.nd rfl (Or.inl rfl) (pe_call ih hr (by rfl) T.g_law_saying T.F_law_saying.kp T.b_law_saying .nil pass0 (pa_cons (pv 0) (pa_cons (pv 1) (pa_cons (pv 5) pa_nil)))))
    (pss_one (ps_set (i := 4) sc_law_saying.nd rfl (Or.inl rfl) (pe_tup (pa_cons (pv 6) (pa_cons (pv 7) (pa_cons (pe_call ih hr (by rfl) T.g_law_saying T.F_law_saying.kp T.b_law_saying .nil pass0 (pa_cons (pv 0) (pa_cons (pv 1) (pa_cons (pe_op op_sub (pe_op op_sub (pv 2) pe_int) (pv 5)) pa_nil)))) pa_nil))))))))))
    (pss_one (ps_ret (pe_ifExp (pt_cmpR op_eq (pe_call (ok_law_draw T) hr (by rfl) T.g_law_draw T.F_law_draw.kp T.b_law_draw .nil pass0 (pa_cons (pv 0) (pa_cons pe_int pa_nil))) pe_int (by rfl)) (pe_tup (pa_cons pe_str (pa_cons (pv 4) pa_nil))) (pv 4))))), ?_⟩
    try dsimp only [L2.cxOf, L2.Cx.nox]
    refine' enterM h (fun S mo => ?sim) ?go
    (case sim => walk_at "sim")
    rintro n0 ds kt kx ⟨names, size, rfl, hc, hx, hl, hs, hk⟩
    have fin : ∀ (s : Say) (c' : Nat), (∀ x ∈ s.leaves, x ∈ names) → s.marks = size → s.depth ≤ 2 * size → s.words ≤ 4 * size + 1 → c' + 1 ≤ n0 + 10 * (2 * size + 1) → kt (.tup [.str "not", Sd s]) (c' + 1) ∧ kt (Sd s) (c' + 1) := by
      intro s c' h1 h2 h3 h4 h5
      exact ⟨hk (.not s) _ h5 h1 h2 (by show s.depth + 1 ≤ _; omega) (by show s.words + 1 ≤ _; omega), hk s _ h5 h1 h2 (by omega) (by omega)⟩
    walk_at "d"
    split
    · rename_i e0
      obtain rfl : size = 0 := by omega
      refine ⟨9, rfl, by omega, by decide, by decide, fun r r0 r1 => ?_⟩
      walk_at "d"
      split
      · obtain ⟨q1, q2⟩ := fin .yes (n0 + 1) (fun x hx => nomatch hx) rfl (Nat.zero_le _) (by decide) (by omega)
        refine ⟨5, rfl, by omega, by decide, by decide, fun r r0 r1 => ?_⟩
        walk_at "d"
        split
        · exact q1
        · exact q2
      split
      · obtain ⟨q1, q2⟩ := fin .no (n0 + 1) (fun x hx => nomatch hx) rfl (Nat.zero_le _) (by decide) (by omega)
        refine ⟨5, rfl, by omega, by decide, by decide, fun r r0 r1 => ?_⟩
        walk_at "d"
        split
        · exact q1
        · exact q2
      · refine ⟨_, rfl, by omega, fun z => hx (List.map_eq_nil_iff.mp z), by rw [List.length_map]; omega, fun y hy => ?_⟩
        obtain ⟨x, hxn, rfl⟩ := List.mem_map.mp hy
        obtain ⟨q1, q2⟩ := fin (.unk x) (n0 + 1 + 1) (fun z hz => by rw [List.mem_singleton.mp hz]; exact hxn) rfl (Nat.zero_le _) (by show 1 ≤ 1; decide) (by omega)
        refine ⟨5, rfl, by omega, by decide, by decide, fun r r0 r1 => ?_⟩
        walk_at "d"
        split
        · exact q1
        · exact q2
    · rename_i e0
      refine ⟨(size : Int), rfl, by omega, by omega, Int.lt_of_lt_of_le (show (size : Int) < 1000000 by omega) (by decide), fun r r0 r1 => ?_⟩
      obtain ⟨left, rfl⟩ : ∃ left : Nat, r = (left : Int) := ⟨r.toNat, by omega⟩
      walk_at "d"
      refine ⟨_, rfl, by omega, (fun z => nomatch z), by decide, fun y hy => ?_⟩
      obtain ⟨kd, rfl⟩ := mk6_of' hy
      refine ⟨names, left, rfl, by omega, hx, hl, by omega, fun s1 c1 b1 l1 n1 d1 w1 => ?_⟩
      walk_at "d"
      have es : (size : Int) - 1 - (left : Int) = ((size - 1 - left : Nat) : Int) := by omega
      rw [es]
      refine ⟨names, size - 1 - left, rfl, by omega, hx, hl, by omega, fun s2 c2 b2 l2 n2 d2 w2 => ?_⟩
      obtain ⟨q1, q2⟩ := fin (.bin kd s1 s2) c2 (fun x hxl => (List.mem_append.mp hxl).elim (l1 x) (l2 x)) (by show s1.marks + s2.marks + 1 = size; omega) (by show max s1.depth s2.depth + 1 ≤ 2 * size; omega) (by show s1.words + s2.words + 1 ≤ 4 * size + 1; omega) (by omega)
      refine ⟨5, rfl, by omega, by decide, by decide, fun r r0 r1 => ?_⟩
      walk_at "d"
      split
      · exact q1
      · exact q2
theorem ok_law_saying (T : Txt P K mg) {k : Nat} : FnOk P w K mg base CX0 (k + 100 + 3) T.f_law_saying T.d_law_saying ["m", "names", "size"] (spSt K (dSaying 100)) := ok_law_saying_n T (k := k) 100
end

/-! ### the law's own looks at sayings -/
def dNamesIn (n : Nat) : SpP := fun ds k _ => ∃ (s : Say) (fs : List Str), ds = [Sd s, .lst (fs.map .str)] ∧ s.depth < n ∧ fs.length + s.words ≤ 100000 ∧ k (.lst ((s.namesIn fs).map .str))
def turnM : Mk6 → Mk6
  | .plus => .or
  | k => k
def turnS : Say → Say
  | .unk x => .unk x
  | .yes => .yes
  | .no => .no
  | .not a => .not (turnS a)
  | .bin k a b => .bin (turnM k) (turnS a) (turnS b)
def dTurned (n : Nat) : SpP := fun ds k _ => ∃ s : Say, ds = [Sd s] ∧ s.depth < n ∧ k (Sd (turnS s))
theorem turn_plus : ∀ s : Say, hasPlus (turnS s) = false
  | .unk x => rfl
  | .yes => rfl
  | .no => rfl
  | .not a => by
    have := turn_plus a
    unfold hasPlus at *
    show (isPlus (.not (turnS a)) || (turnS a).all.any isPlus) = false
    rw [this]; rfl
  | .bin k a b => by
    have h1 := turn_plus a
    have h2 := turn_plus b
    unfold hasPlus at *
    show (isPlus (.bin (turnM k) (turnS a) (turnS b)) || ((turnS a).all ++ (turnS b).all).any isPlus) = false
    rw [List.any_append, h1, h2]
    cases k <;> rfl
theorem turn_leaves : ∀ s : Say, (turnS s).leaves = s.leaves
  | .unk x => rfl
  | .yes => rfl
  | .no => rfl
  | .not a => turn_leaves a
  | .bin k a b => by
    show (turnS a).leaves ++ (turnS b).leaves = _
    rw [turn_leaves a, turn_leaves b]; rfl
theorem turn_words : ∀ s : Say, (turnS s).words = s.words
  | .unk x => rfl
  | .yes => rfl
  | .no => rfl
  | .not a => congrArg (· + 1) (turn_words a)
  | .bin k a b => by
    show (turnS a).words + (turnS b).words + 1 = _
    rw [turn_words a, turn_words b]; rfl
theorem namesIn_len : ∀ (s : Say) (f : List Str), (s.namesIn f).length ≤ f.length + s.words
  | .unk x, f => by
    show (if x ∈ f then f else f ++ [x]).length ≤ f.length + 1
    split
    · omega
    · simp
  | .yes, f => Nat.le_succ _
  | .no, f => Nat.le_succ _
  | .not a, f => Nat.le_succ_of_le (namesIn_len a f)
  | .bin k a b, f => by
    have h1 := namesIn_len a f
    have h2 := namesIn_len b (a.namesIn f)
    show (b.namesIn (a.namesIn f)).length ≤ f.length + (a.words + b.words + 1)
    omega
def dRanked (n : Nat) : SpP := fun ds k _ => ∃ (s : Say) (kvs : List (Key × D)) (f : Str → Int) (top : Int), ds = [Sd s, .dic kvs, .int top] ∧ s.depth < n ∧ hasPlus s = false ∧ (∀ x ∈ s.leaves, valD kvs (.inr x) = some (.int (f x))) ∧ k (.int (oSay f top s))
theorem all_flat_str (fs : List Str) : (fs.map D.str).all flatD = true := by
  rw [List.all_map]
  exact List.all_eq_true.mpr fun x _ => rfl
section
variable {P : Program} {w : World} {K : PySem.W.Frag} {mg : Str → Option Value} {base : Heap}
theorem sc_law_names_in : FnScope ["saying", "found", "inner"] ["saying", "found"] (defScope s_law_names_in) := ⟨rfl, rfl, rfl, by decide +kernel, rfl, by decide +kernel, by decide +kernel⟩
theorem ok_law_names_in_n (T : Txt P K mg) {k : Nat} : ∀ n : Nat, FnOk P w K mg base CX0 (k + n + 0) T.f_law_names_in T.d_law_names_in ["saying", "found"] (spPu K (dNamesIn n))
  | 0 => by
    have no : ∀ vs H Q E, ¬ (spPu K (dNamesIn 0)) vs H Q E := fun vs H Q E h => by
      obtain ⟨S, mo, ds, k, kx, _, _, hk, _⟩ := h
      obtain ⟨s, fs, _, hd, hl, hk⟩ := hk
      omega
    exact ⟨fun vs H Q E h => absurd h (no vs H Q E), fun A outer s H args us vs Q E _ _ _ _ h => absurd h (no vs H Q E)⟩
  | n + 1 => by
    have ih := ok_law_names_in_n T (k := k) n
    refine T.F_law_names_in.ok sc_law_names_in (fun vs H Q E h => spPu_len (by rintro _ _ _ ⟨s, fs, rfl, hd, hl, hk⟩; rfl) h) (fun cdv A outer s H vs Q E hr h => ?_)
    refine ⟨_, (pss_cons (ps_if (pt_cmpR op_eq (pe_ix (ix_tupK K) (pv 0) pe_int (fun _ _ => rfl)) pe_str (by rfl)) (pss_one (ps_ret (pe_ifExp (pt_cmpR (in_seqK K) (pe_ix (ix_tupK K) (pv 0) pe_int (fun _ _ => rfl)) (pv 1) (by rfl)) (pv 1) (pe_op op_cat (pv 1) (pe_lst (pa_cons (pe_ix (ix_tupK K) (pv 0) pe_int (fun _ _ => rfl)) pa_nil)))))) pss_nil)
    (pss_cons (ps_for PassesOwn.never rfl (pi_tup (pe_slice (sl_tupAK K) (pv 0) (po_some pe_int) po_none)) (pg_name (i := 2) sc_law_names_in.nd rfl (Or.inl rfl)) (pss_one (ps_set (i := 1) sc_law_names_in.nd rfl (Or.inl rfl) (pe_call ih hr (by rfl) T.g_law_names_in T.F_law_names_in.kp T.b_law_names_in .nil pass0 (pa_cons (pv 2) (pa_cons (pv 1) pa_nil))))))
    (pss_one (ps_ret (pv 1))))), ?_⟩
    try dsimp only [L2.cxOf, L2.Cx.nox]
    refine' enterP h (fun S mo => ?sim) ?go
    (case sim => walk_at "sim")
    rintro ds kt kx ⟨s, fs, rfl, hd, hl, hk⟩
    cases s with
    | unk x =>
      simp only [Sd]
      walk_at "d"
      rw [inD_str]
      refine ⟨all_flat_str fs, ?_⟩
      simp only [decide_eq_true_eq]
      have e : (Say.unk x).namesIn fs = if x ∈ fs then fs else fs ++ [x] := rfl
      rw [e] at hk
      split
      · rename_i c
        rw [if_pos c] at hk
        exact hk
      · rename_i c
        rw [if_neg c, List.map_append] at hk
        exact ⟨by rw [List.length_map]; omega, hk⟩
    | yes =>
      simp only [Sd]
      walk_at "d"
      walk_at "dd"
      exact hk
    | no =>
      simp only [Sd]
      walk_at "d"
      walk_at "dd"
      exact hk
    | not a =>
      have hl' : fs.length + (a.words + 1) ≤ 100000 := hl
      simp only [Sd]
      walk_at "d"
      walk_at "dd"
      refine ⟨a, fs, rfl, Nat.lt_of_succ_lt_succ hd, by omega, ?_⟩
      walk_at "dd"
      exact hk
    | bin kd a b =>
      have da : max a.depth b.depth + 1 < n + 1 := hd
      have hl' : fs.length + (a.words + b.words + 1) ≤ 100000 := hl
      have := namesIn_len a fs
      simp only [Sd]
      walk_at "d"
      simp only [mk6_unk', if_false]
      walk_at "dd"
      refine ⟨a, fs, rfl, by omega, by omega, ?_⟩
      walk_at "dd"
      refine ⟨b, _, rfl, by omega, by omega, ?_⟩
      walk_at "dd"
      exact hk
theorem ok_law_names_in (T : Txt P K mg) {k : Nat} : FnOk P w K mg base CX0 (k + 100 + 0) T.f_law_names_in T.d_law_names_in ["saying", "found"] (spPu K (dNamesIn 100)) := ok_law_names_in_n T (k := k) 100
theorem sc_law_turned : FnScope ["saying", "mark", "inner"] ["saying"] (defScope s_law_turned) := ⟨rfl, rfl, rfl, by decide +kernel, rfl, by decide +kernel, by decide +kernel⟩
theorem ok_law_turned_n (T : Txt P K mg) {k : Nat} : ∀ n : Nat, FnOk P w K mg base CX0 (k + n + 1) T.f_law_turned T.d_law_turned ["saying"] (spPu K (dTurned n))
  | 0 => by
    have no : ∀ vs H Q E, ¬ (spPu K (dTurned 0)) vs H Q E := fun vs H Q E h => by
      obtain ⟨S, mo, ds, k, kx, _, _, hk, _⟩ := h
      obtain ⟨s, _, hd, hk⟩ := hk
      omega
    exact ⟨fun vs H Q E h => absurd h (no vs H Q E), fun A outer s H args us vs Q E _ _ _ _ h => absurd h (no vs H Q E)⟩
  | n + 1 => by
    have ih := ok_law_turned_n T (k := k) n
    refine T.F_law_turned.ok sc_law_turned (fun vs H Q E h => spPu_len (by rintro _ _ _ ⟨s, rfl, hd, hk⟩; rfl) h) (fun cdv A outer s H vs Q E hr h => ?_)
    refine ⟨_, (pss_cons (ps_if (pt_cmpR (in_seqK K) (pe_ix (ix_tupK K) (pv 0) pe_int (fun _ _ => rfl)) (pe_tup (pa_cons pe_str (pa_cons pe_str (pa_cons pe_str pa_nil)))) (by rfl)) (pss_one (ps_ret (pv 0))) pss_nil)
    (pss_cons (ps_set (i := 1) sc_law_turned.nd rfl (Or.inl rfl) (pe_ifExp (pt_cmpR op_eq (pe_ix (ix_tupK K) (pv 0) pe_int (fun _ _ => rfl)) pe_str (by rfl)) pe_str (pe_ix (ix_tupK K) (pv 0) pe_int (fun _ _ => rfl))))
    (pss_one (ps_ret (pe_op (op_catAK K) (pe_tup (pa_cons (pv 1) pa_nil)) (pe_callTy (tuple_ofK K) (by rfl) T.z_tuple (by decide +kernel) (pa_cons (pe_lc (own := [("inner", 2)]) (g := (gName 2)) rfl sc_law_turned.nd (pi_tup (pe_slice (sl_tupAK K) (pv 0) (po_some pe_int) po_none)) (blkOk_by (N := ["saying", "mark", "inner"]) (sc := defScope s_law_turned) (by decide +kernel)) (fun _ _ _ _ _ => (pg_name (i := 2) sc_law_turned.nd rfl (Or.inl rfl))) (fun _ _ _ _ _ => pts_nil) (fun _ _ _ _ _ => (pe_call ih hr (by rfl) T.g_law_turned T.F_law_turned.kp T.b_law_turned .nil pass0 (pa_cons (pv 2) pa_nil)))) pa_nil))))))), ?_⟩
    try dsimp only [L2.cxOf, L2.Cx.nox]
    refine' enterP h (fun S mo => ?sim) ?go
    (case sim => walk_at "sim")
    rintro ds kt kx ⟨s, rfl, hd, hk⟩
    cases s with
    | unk x =>
      simp only [Sd]
      walk_at "dd"
      exact hk
    | yes =>
      simp only [Sd]
      walk_at "dd"
      exact hk
    | no =>
      simp only [Sd]
      walk_at "dd"
      exact hk
    | not a =>
      simp only [Sd]
      walk_at "dd"
      refine ⟨a, rfl, Nat.lt_of_succ_lt_succ hd, ?_⟩
      walk_at "dd"
      first | exact hk | exact ⟨by decide, hk⟩
    | bin kd a b =>
      have da : max a.depth b.depth + 1 < n + 1 := hd
      simp only [Sd]
      cases kd
      all_goals simp only [Mk6.str]
      all_goals walk_at "dd"
      all_goals refine ⟨a, rfl, by omega, ?_⟩
      all_goals walk_at "dd"
      all_goals refine ⟨b, rfl, by omega, ?_⟩
      all_goals walk_at "dd"
      all_goals first | exact hk | exact ⟨by decide, hk⟩
theorem ok_law_turned (T : Txt P K mg) {k : Nat} : FnOk P w K mg base CX0 (k + 100 + 1) T.f_law_turned T.d_law_turned ["saying"] (spPu K (dTurned 100)) := ok_law_turned_n T (k := k) 100
theorem sc_law_ranked : FnScope ["saying", "table", "whole", "one", "two"] ["saying", "table", "whole"] (defScope s_law_ranked) := ⟨rfl, rfl, rfl, by decide +kernel, rfl, by decide +kernel, by decide +kernel⟩
theorem ok_law_ranked_n (T : Txt P K mg) {k : Nat} : ∀ n : Nat, FnOk P w K mg base CX0 (k + n + 1) T.f_law_ranked T.d_law_ranked ["saying", "table", "whole"] (spPu K (dRanked n))
  | 0 => by
    have no : ∀ vs H Q E, ¬ (spPu K (dRanked 0)) vs H Q E := fun vs H Q E h => by
      obtain ⟨S, mo, ds, k, kx, _, _, hk, _⟩ := h
      obtain ⟨s, kvs, f, top, _, hd, hp, hf, hk⟩ := hk
      omega
    exact ⟨fun vs H Q E h => absurd h (no vs H Q E), fun A outer s H args us vs Q E _ _ _ _ h => absurd h (no vs H Q E)⟩
  | n + 1 => by
    have ih := ok_law_ranked_n T (k := k) n
    refine T.F_law_ranked.ok sc_law_ranked (fun vs H Q E h => spPu_len (by rintro _ _ _ ⟨s, kvs, f, top, rfl, hd, hp, hf, hk⟩; rfl) h) (fun cdv A outer s H vs Q E hr h => ?_)
    refine ⟨_, (pss_cons (ps_if (pt_cmpR op_eq (pe_ix (ix_tupK K) (pv 0) pe_int (fun _ _ => rfl)) pe_str (by rfl)) (pss_one (ps_ret (pe_dget (hu_of hr) (pv 1) (pe_ix (ix_tupK K) (pv 0) pe_int (fun _ _ => rfl)) (fun _ _ => rfl)))) pss_nil)
    (pss_cons (ps_if (pt_cmpR (in_seqK K) (pe_ix (ix_tupK K) (pv 0) pe_int (fun _ _ => rfl)) (pe_tup (pa_cons pe_str (pa_cons pe_str pa_nil))) (by rfl)) (pss_one (ps_ret (pe_ifExp (pt_cmpR op_eq (pe_ix (ix_tupK K) (pv 0) pe_int (fun _ _ => rfl)) pe_str (by rfl)) (pv 2) pe_int))) pss_nil)
    (pss_cons (ps_set (i := 3) sc_law_ranked.nd rfl (Or.inl rfl) (pe_call ih hr (by rfl) T.g_law_ranked T.F_law_ranked.kp T.b_law_ranked .nil pass0 (pa_cons (pe_ix (ix_tupK K) (pv 0) pe_int (fun _ _ => rfl)) (pa_cons (pv 1) (pa_cons (pv 2) pa_nil)))))
    (pss_cons (ps_if (pt_cmpR op_eq (pe_ix (ix_tupK K) (pv 0) pe_int (fun _ _ => rfl)) pe_str (by rfl)) (pss_one (ps_ret (pe_ifExp (pt_cmpR op_eq (pv 3) pe_int (by rfl)) (pv 2) pe_int))) pss_nil)
    (pss_cons (ps_set (i := 4) sc_law_ranked.nd rfl (Or.inl rfl) (pe_call ih hr (by rfl) T.g_law_ranked T.F_law_ranked.kp T.b_law_ranked .nil pass0 (pa_cons (pe_ix (ix_tupK K) (pv 0) pe_int (fun _ _ => rfl)) (pa_cons (pv 1) (pa_cons (pv 2) pa_nil)))))
    (pss_cons (ps_if (pt_cmpR (in_seqK K) (pe_ix (ix_tupK K) (pv 0) pe_int (fun _ _ => rfl)) (pe_tup (pa_cons pe_str (pa_cons pe_str pa_nil))) (by rfl)) (pss_one (ps_ret (pe_callB (call_min2 rfl) (by rfl) T.z_min (by decide +kernel) (pa_cons (pv 3) (pa_cons (pv 4) pa_nil))))) pss_nil)
    (pss_cons (ps_if (pt_cmpR op_eq (pe_ix (ix_tupK K) (pv 0) pe_int (fun _ _ => rfl)) pe_str (by rfl)) (pss_one (ps_ret (pe_callB (call_max2 rfl) (by rfl) T.z_max (by decide +kernel) (pa_cons (pv 3) (pa_cons (pv 4) pa_nil))))) pss_nil)
    (pss_cons (ps_if (pt_cmpR op_eq (pe_ix (ix_tupK K) (pv 0) pe_int (fun _ _ => rfl)) pe_str (by rfl)) (pss_one (ps_ret (pe_ifExp (pt_cmpR op_le (pv 3) (pv 4) (by rfl)) (pv 2) (pv 4)))) pss_nil)
    (pss_one (ps_ret (pe_ifExp (pt_cmpR op_eq (pv 3) (pv 4) (by rfl)) (pv 2) (pe_callB (call_min2 rfl) (by rfl) T.z_min (by decide +kernel) (pa_cons (pv 3) (pa_cons (pv 4) pa_nil)))))))))))))), ?_⟩
    try dsimp only [L2.cxOf, L2.Cx.nox]
    refine' enterP h (fun S mo => ?sim) ?go
    (case sim => walk_at "sim")
    rintro ds kt kx ⟨s, kvs, f, top, rfl, hd, hp, hf, hk⟩
    cases s with
    | unk x =>
      simp only [Sd]
      walk_at "dd"
      rw [hf x (List.mem_singleton.mpr rfl)]
      exact hk
    | yes =>
      simp only [Sd]
      walk_at "dd"
      exact hk
    | no =>
      simp only [Sd]
      walk_at "dd"
      exact hk
    | not a =>
      simp only [Sd]
      walk_at "dd"
      refine ⟨a, kvs, f, top, rfl, Nat.lt_of_succ_lt_succ hd, hp, hf, ?_⟩
      walk_at "dd"
      simp only [oSay] at hk
      split <;> (rename_i c; simp only [c, if_true, if_false] at hk; exact hk)
    | bin kd a b =>
      have da : max a.depth b.depth + 1 < n + 1 := hd
      have hp' : isPlus (.bin kd a b) = false ∧ hasPlus a = false ∧ hasPlus b = false := by
        have : (isPlus (.bin kd a b) || (a.all ++ b.all).any isPlus) = false := hp
        rw [List.any_append, Bool.or_eq_false_iff, Bool.or_eq_false_iff] at this
        exact this
      simp only [Sd]
      cases kd
      all_goals simp only [Mk6.str]
      all_goals walk_at "dd"
      all_goals refine ⟨a, kvs, f, top, rfl, by omega, hp'.2.1, fun x m => hf x (List.mem_append_left _ m), ?_⟩
      all_goals walk_at "dd"
      all_goals refine ⟨b, kvs, f, top, rfl, by omega, hp'.2.2, fun x m => hf x (List.mem_append_right _ m), ?_⟩
      all_goals walk_at "dd"
      all_goals simp only [oSay, oMk] at hk
      all_goals first
        | exact absurd (show true = false from hp'.1) (by decide)
        | (generalize oSay f top a = u at hk ⊢
           generalize oSay f top b = v at hk ⊢
           (repeat' split) <;> (refine cast (congrArg (fun z : Int => kt (D.int z)) ?_) hk) <;> (repeat' split) <;> omega)
theorem ok_law_ranked (T : Txt P K mg) {k : Nat} : FnOk P w K mg base CX0 (k + 100 + 1) T.f_law_ranked T.d_law_ranked ["saying", "table", "whole"] (spPu K (dRanked 100)) := ok_law_ranked_n T (k := k) 100
end

/-! ### blocks, types, falling chains -/
def midL (r : List Int) : List Int := r.filter fun l => decide (0 < l) && decide (l ≤ (r.length : Int))
def blocksL (r : List Int) : Nat := (PyProof.Rows.firstMet (fun i => (midL r).getD i 0) (midL r).length).length
def dLBlocks : SpP := fun ds k _ => ∃ r : List Int, ds = [Rd r] ∧ small r ∧ k (.int (blocksL r : Nat))
def dLTypes : SpP := fun ds k _ => ∃ c : Nat, ds = [.int (c : Int)] ∧ c ≤ 4 ∧ k (.lst ((typesP c).map Rd))
theorem types_law : ∀ c : Nat, c ≤ 4 → ((rowsO c c).filter fun r => decide ((blocksL r : Int) = maxZ (0 :: r.filter fun l => decide (l ≤ (c : Int))))) = typesP c
  | 0, _ => by decide +kernel
  | 1, _ => by decide +kernel
  | 2, _ => by decide +kernel
  | 3, _ => by decide +kernel
  | 4, _ => by decide +kernel
  | c + 5, h => by omega
theorem rows_many {c j : Nat} (hc : c ≤ 4) (hj : j ≤ 4) : (rowsO c j).length ≤ 1296 := by
  rw [rows_len]
  have h2 : (c + 2) ^ j ≤ 6 ^ j := Nat.pow_le_pow_left (by omega) _
  have h3 : 6 ^ j ≤ 6 ^ 4 := Nat.pow_le_pow_right (by decide) hj
  have h4 : (6 : Nat) ^ 4 = 1296 := by decide
  omega
def extO (c : Nat) (r : List Int) : List (List Int) := (List.range (c + 2)).map fun (l : Nat) => r ++ [(l : Int)]
theorem ext_len (c : Nat) (l : List (List Int)) : (l.flatMap (extO c)).length = l.length * (c + 2) := by
  induction l with
  | nil => simp
  | cons r t ih =>
    rw [List.flatMap_cons, List.length_append, ih, List.length_cons, Nat.succ_mul]
    unfold extO
    rw [List.length_map, List.length_range]
    omega
section
variable {P : Program} {w : World} {K : PySem.W.Frag} {mg : Str → Option Value} {base : Heap}
theorem sc_law_blocks : FnScope ["kind", "level"] ["kind"] (defScope s_law_blocks) := ⟨rfl, rfl, rfl, by decide +kernel, rfl, by decide +kernel, by decide +kernel⟩
theorem ok_law_blocks (T : Txt P K mg) {k : Nat} : FnOk P w K mg base CX0 (k + 1) T.f_law_blocks T.d_law_blocks ["kind"] (spPu K dLBlocks) := by
  refine T.F_law_blocks.ok sc_law_blocks (fun vs H Q E h => spPu_len (by rintro _ _ _ ⟨r, rfl, hs, hk⟩; rfl) h) (fun cdv A outer s H vs Q E hr h => ?_)
  refine ⟨_, (pss_one (ps_ret (pe_lenSetA (by rfl) T.z_len (by rfl) T.z_set (pe_lc (own := [("level", 1)]) (g := (gName 1)) rfl sc_law_blocks.nd (pi_tup (pv 0)) (blkOk_by (N := ["kind", "level"]) (sc := defScope s_law_blocks) (by decide +kernel)) (fun _ _ _ _ _ => (pg_name (i := 1) sc_law_blocks.nd rfl (Or.inl rfl))) (fun _ _ _ _ _ => (pts_one (pt_chain op_lt op_le pe_int (pv 1) (pe_callB (len_seqK K) (by rfl) T.z_len (by decide +kernel) (pa_cons (pv 0) pa_nil))))) (fun _ _ _ _ _ => (pv 1)))))), ?_⟩
  try dsimp only [L2.cxOf, L2.Cx.nox]
  refine' enterP h (fun S mo => ?sim) ?go
  (case sim => walk_at "sim")
  rintro ds kt kx ⟨r, rfl, hs, hk⟩
  unfold Rd
  walk_at "d"
  refine dlcFM D.int D.int (fun l => decide (0 < l) && decide (l ≤ (r.length : Int))) (fun l hl K K' hK => ?_) ?_
  · walk_at "d"
    rw [List.length_map]
    by_cases c1 : 0 < l
    · by_cases c2 : l ≤ (r.length : Int)
      · simp only [c1, c2, decide_true, if_true]
        exact (hK _ rfl).1 (by simp [c1, c2])
      · simp only [c1, c2, decide_true, decide_false, if_true, if_false]
        exact (hK _ rfl).2 (by simp [c1, c2])
    · simp only [c1, decide_false, if_false]
      exact (hK _ rfl).2 (by simp [c1])
  · refine ⟨_, intsD_map _, ?_, hk⟩
    have := List.length_filter_le (fun l => decide (0 < l) && decide (l ≤ (r.length : Int))) r
    have := hs.1
    omega
theorem sc_law_types : FnScope ["count", "rows", "spot", "later", "row", "level"] ["count"] (defScope s_law_types) := ⟨rfl, rfl, rfl, by decide +kernel, rfl, by decide +kernel, by decide +kernel⟩
theorem ok_law_types (T : Txt P K mg) {k : Nat} : FnOk P w K mg base CX0 (k + 2) T.f_law_types T.d_law_types ["count"] (spPu K dLTypes) := by
  refine T.F_law_types.ok sc_law_types (fun vs H Q E h => spPu_len (by rintro _ _ _ ⟨c, rfl, hc, hk⟩; rfl) h) (fun cdv A outer s H vs Q E hr h => ?_)
  refine ⟨_, (pss_cons (ps_set (i := 1) sc_law_types.nd rfl (Or.inl rfl) (pe_lst (pa_cons (pe_tup pa_nil) pa_nil)))
    (pss_cons (ps_for PassesOwn.never rfl (pi_range1 rfl T.z_range (pa_cons (pv 0) pa_nil)) (pg_name (i := 2) sc_law_types.nd rfl (Or.inl rfl)) (pss_cons (ps_set (i := 3) sc_law_types.nd rfl (Or.inl rfl) (pe_lst pa_nil))
    (pss_cons (ps_for PassesOwn.never rfl (pi_list (pv 1)) (pg_name (i := 4) sc_law_types.nd rfl (Or.inr rfl)) (pss_one (ps_set (i := 3) sc_law_types.nd rfl (Or.inl rfl) (pe_op op_cat (pv 3) (pe_lc (own := [("level", 5)]) (g := (gName 5)) rfl sc_law_types.nd (pi_range1 rfl T.z_range (pa_cons (pe_op op_add (pv 0) pe_int) pa_nil)) (blkOk_by (N := ["count", "rows", "spot", "later", "row", "level"]) (sc := defScope s_law_types) (by decide +kernel)) (fun _ _ _ _ _ => (pg_name (i := 5) sc_law_types.nd rfl (Or.inl rfl))) (fun _ _ _ _ _ => pts_nil) (fun _ _ _ _ _ => (pe_op (op_catAK K) (pv 4) (pe_tup (pa_cons (pv 5) pa_nil)))))))))
    (pss_one (ps_set (i := 1) sc_law_types.nd rfl (Or.inl rfl) (pv 3))))))
    (pss_one (ps_ret (pe_lc (own := [("row", 4)]) (g := (gName 4)) rfl sc_law_types.nd (pi_list (pv 1)) (blkOk_by (N := ["count", "rows", "spot", "later", "row", "level"]) (sc := defScope s_law_types) (by decide +kernel)) (fun _ _ _ _ _ => (pg_name (i := 4) sc_law_types.nd rfl (Or.inl rfl))) (fun _ _ _ _ _ => (pts_one (pt_cmpR op_eq (pe_call (ok_law_blocks T) hr (by rfl) T.g_law_blocks T.F_law_blocks.kp T.b_law_blocks .nil pass0 (pa_cons (pv 4) pa_nil)) (pe_callB (cr_maxK K rfl rfl) (by rfl) T.z_max (by decide +kernel) (pa_cons (pe_op op_cat (pe_lst (pa_cons pe_int pa_nil)) (pe_lc (own := [("level", 5)]) (g := (gName 5)) rfl sc_law_types.nd (pi_tupK K (pv 4)) (blkOk_by (N := ["count", "rows", "spot", "later", "row", "level"]) (by rfl)) (fun _ _ _ _ _ => (pg_name (i := 5) sc_law_types.nd rfl (Or.inl rfl))) (fun _ _ _ _ _ => (pts_one (pt_cmpR op_le (pv 5) (pv 0) (by rfl)))) (fun _ _ _ _ _ => (pv 5)))) pa_nil)) (by rfl)))) (fun _ _ _ _ _ => (pv 4))))))), ?_⟩
  try dsimp only [L2.cxOf, L2.Cx.nox]
  refine' enterP h (fun S mo => ?sim) ?go
  (case sim => walk_at "sim")
  rintro ds kt kx ⟨c, rfl, hc, hk⟩
  walk_at "d"
  refine ⟨by omega, by omega, ?_⟩
  simp only [range0]
  refine dforM _ (fun l e => ∃ y2 y3 y4 : Slo, e = ⟨0, [.d (.int (c : Int)), .d (.lst ((rowsO c l.length).map Rd)), y2, y3, y4, .u]⟩) ⟨_, _, _, rfl⟩ ?_ ?_
  · rintro e ⟨y2, y3, y4, rfl⟩
    walk_at "d"
    simp only [List.length_range, Int.toNat_natCast]
    refine dlcFM Rd Rd (fun r => decide ((blocksL r : Int) = maxZ (0 :: r.filter fun l => decide (l ≤ (c : Int))))) (fun q hq K K' hK => ?_) ?_
    · obtain ⟨r1, r2⟩ := rows_small c hc c (Nat.le_refl _) q hq
      walk_at "d"
      refine ⟨q, rfl, ⟨by omega, r2⟩, ?_⟩
      unfold Rd at *
      walk_at "d"
      refine dlcFM D.int D.int (fun l => decide (l ≤ (c : Int))) (fun l hl K2 K2' hK2 => ?_) ?_
      · walk_at "d"
        by_cases c1 : l ≤ (c : Int)
        · rw [if_pos c1]
          exact (hK2 _ rfl).1 (decide_eq_true c1)
        · rw [if_neg c1]
          exact (hK2 _ rfl).2 (decide_eq_false c1)
      · refine ⟨?_, 0 :: q.filter (fun l => decide (l ≤ (c : Int))), ?_, Nat.succ_pos _, fun m h1 h2 => ?_⟩
        · have := List.length_filter_le (fun l => decide (l ≤ (c : Int))) q
          rw [List.length_map]
          omega
        · exact intsD_map (0 :: q.filter (fun l => decide (l ≤ (c : Int))))
        · rw [maxZ_of h1 h2] at hK
          walk_at "d"
          split
          · rename_i c1
            exact (hK _ rfl).1 (decide_eq_true c1)
          · rename_i c1
            exact (hK _ rfl).2 (decide_eq_false c1)
    · rw [types_law c hc]
      exact hk
  · rintro l i r e N h1 ⟨y2, y3, y4, rfl⟩ hN
    have hl : l.length < c := by
      have := congrArg List.length h1
      simp only [List.length_range, Int.toNat_natCast, List.length_append, List.length_cons] at this
      omega
    walk_at "d"
    refine dforM Rd (fun l2 e => ∃ y4 : Slo, e = ⟨0, [.d (.int (c : Int)), .d (.lst ((rowsO c l.length).map Rd)), .d (.int (i : Int)), .d (.lst ((l2.flatMap (extO c)).map Rd)), y4, .u]⟩) ⟨_, rfl⟩ ?_ ?_
    · rintro e ⟨y4, rfl⟩
      walk_at "d"
      exact hN _ ⟨.d (.int (i : Int)), .d (.lst (((rowsO c l.length).flatMap (extO c)).map Rd)), y4, by rw [List.length_append]; rfl⟩
    · rintro l2 q r2 e N2 h2 ⟨y4, rfl⟩ hN2
      have hm : q ∈ rowsO c l.length := by rw [h2]; simp
      obtain ⟨r1, r2'⟩ := rows_small c hc l.length (by omega) q hm
      have many := rows_many (c := c) (j := l.length) hc (by omega)
      have hl2 : l2.length ≤ 1296 := by
        have := congrArg List.length h2
        rw [List.length_append] at this
        omega
      have e1 : ((c : Int) + 2).toNat = c + 2 := by omega
      unfold Rd at *
      walk_at "d"
      refine ⟨by omega, by omega, ?_⟩
      simp only [range0, e1]
      refine dlcMM (fun (i : Nat) => D.int (i : Int)) (fun (i : Nat) => Rd (q ++ [(i : Int)])) (fun z hz K hK => ?_) ?_
      · walk_at "d"
        refine ⟨by rw [List.length_map]; omega, ?_⟩
        unfold Rd at hK
        simp only [List.map_append, List.map_cons, List.map_nil] at hK
        exact hK _ rfl
      · walk_at "d"
        refine ⟨?_, ?_⟩
        · simp only [List.length_map, List.length_range, ext_len]
          have : l2.length * (c + 2) ≤ 1296 * 6 := Nat.mul_le_mul hl2 (by omega)
          omega
        · have e2 : ((l2.flatMap (extO c)).map fun r => D.tup (r.map .int)) ++ (List.range (c + 2)).map (fun (i : Nat) => Rd (q ++ [(i : Int)])) = ((l2 ++ [q]).flatMap (extO c)).map fun r => D.tup (r.map .int) := by
            rw [List.flatMap_append, List.map_append, List.flatMap_cons, List.flatMap_nil, List.append_nil]
            unfold extO
            rw [List.map_map]
            rfl
          rw [e2]
          exact hN2 _ ⟨_, rfl⟩
end

/-! ### lowest terms, by the law -/
def dLLow : SpP := fun ds k _ => ∃ a b : Int, ds = [.int a, .int b] ∧ 0 ≤ a ∧ 0 < b ∧ wide b ∧ k (lowD a b)
section
variable {P : Program} {w : World} {K : PySem.W.Frag} {mg : Str → Option Value} {base : Heap}
theorem sc_law_lowest : FnScope ["above", "below", "one", "two"] ["above", "below"] (defScope s_law_lowest) := ⟨rfl, rfl, rfl, by decide +kernel, rfl, by decide +kernel, by decide +kernel⟩
theorem ok_law_lowest (T : Txt P K mg) {k : Nat} : FnOk P w K mg base CX0 (k + 1) T.f_law_lowest T.d_law_lowest ["above", "below"] (spPu K dLLow) := by
  refine T.F_law_lowest.ok sc_law_lowest (fun vs H Q E h => spPu_len (by rintro _ _ _ ⟨a, b, rfl, h0, hb, hw, hk⟩; rfl) h) (fun cdv A outer s H vs Q E hr h => ?_)
  refine ⟨_, (pss_cons (ps_par (i := 2) (j := 3) (by rfl) sc_law_lowest.nd rfl rfl (by decide) rfl rfl (pa_cons (pe_callB call_abs (by rfl) T.z_abs (by decide +kernel) (pa_cons (pv 0) pa_nil)) (pa_cons (pv 1) pa_nil)) (by rfl))
    (pss_cons (ps_while PassesOwn.never (pt_cmpR op_gt (pv 3) pe_int (by rfl)) (pss_one (ps_par (i := 2) (j := 3) (by rfl) sc_law_lowest.nd rfl rfl (by decide) rfl rfl (pa_cons (pv 3) (pa_cons (pe_op op_mod (pe_callTy call_int1 (by rfl) T.z_int (by decide +kernel) (pa_cons (pv 2) pa_nil)) (pv 3)) pa_nil)) (by rfl))))
    (pss_one (ps_ret (pe_tup (pa_cons (pe_op op_fdivW (pv 0) (pv 2)) (pa_cons (pe_op op_fdivW (pv 1) (pv 2)) pa_nil))))))), ?_⟩
  try dsimp only [L2.cxOf, L2.Cx.nox]
  refine' enterP h (fun S mo => ?sim) ?go
  (case sim => walk_at "sim")
  rintro ds kt kx ⟨a, b, rfl, h0, hb, hw, hk⟩
  have g1 : 0 < Int.gcd a b := Int.gcd_pos_of_ne_zero_right a (by omega)
  have g2 : Int.gcd a b ≤ b.natAbs := Nat.le_of_dvd (by omega) (Nat.gcd_dvd_right a.natAbs b.natAbs)
  have cw : CDivW 0 (Int.gcd a b : Int) := ⟨by omega, wide_log (Nat.lt_of_le_of_lt (by omega) hw)⟩
  walk_at "d"
  refine dwhile (fun m e => ∃ one two : Nat, m = two ∧ e = ⟨0, [.d (.int a), .d (.int b), .d (.int (one : Int)), .d (.int (two : Int))]⟩ ∧ Nat.gcd one two = Int.gcd a b) b.toNat ⟨a.natAbs, b.toNat, rfl, ?_, ?_⟩ ?_
  · rw [Int.toNat_of_nonneg (by omega), if_neg (by omega), Int.natAbs_of_nonneg h0]
  · show Nat.gcd a.natAbs b.toNat = Nat.gcd a.natAbs b.natAbs
    rw [show b.toNat = b.natAbs by omega]
  · rintro m e ⟨one, two, rfl, rfl, hg⟩
    walk_at "d"
    by_cases c : (0 : Int) < (m : Int)
    · rw [if_pos c]
      refine ⟨c, one % m, Nat.mod_lt _ (by omega), m, one % m, rfl, rfl, ?_⟩
      rw [Nat.gcd_comm, ← hg, Nat.gcd_comm one m]
      exact (Nat.gcd_rec m one).symm
    · rw [if_neg c]
      have hm : m = 0 := by omega
      subst hm
      rw [Nat.gcd_zero_right] at hg
      subst hg
      exact ⟨cw, cw, hk⟩
end

/-! ### told, or what was raised -/
section
variable {P : Program} {w : World} {K : PySem.W.Frag} {mg : Str → Option Value} {base : Heap}
theorem sc_law_outcome : FnScope ["call", "found", "error"] ["call"] (defScope s_law_outcome) := ⟨rfl, rfl, rfl, by decide +kernel, rfl, by decide +kernel, by decide +kernel⟩
def outs (T : Txt P K mg) : List (Addr × Str × Str) := [(T.C_WrongMark, "mark", "mark"), (T.C_TooMany, "many", "what"), (T.C_UnknownName, "unknown", "name"), (T.C_OutOfRange, "range", "value")]
theorem gives_outcome {X : Cx} {K : PySem.W.Frag} {mg : Str → Option Value} (T : Txt P K mg) (hK : X.K = K) (hmg : X.mg = mg) (q : Str) (cdv : Value) : LamX.GivesTo X ["call", "found", "error"] "_law_outcome" (defScope s_law_outcome) T.f_law_outcome cdv (defBody s_law_outcome) "call" q (TOut K (outs T)) := by
  subst hK hmg
  intro f c' s H Q tl act hc h
  refine ⟨_, pss_cons (ps_tryN (X := (cxOf C8.CX0 X.prog X.w X.K X.mg X.base ["call", "found", "error"] "_law_outcome" (defScope s_law_outcome) T.f_law_outcome cdv X.A X.stack s H C8.E0).nox)
    (rb := fun W D σ H => ∃ Ech : XK, (∀ cls d σ' H', σ'.length = 3 → Ech cls d H' → W cls d σ' H') ∧ σ[0]? = some (some (.ref f)) ∧ H c' = some (LamX.CodeO c' q) ∧ tl Ech H (fun v H1 => ([V.str "told", v] : List V).length ≤ sizeLine ∧ ∀ p, H1 p = none → D.nx (σ.set 1 (some (.ref p))) (upd H1 p (.tup [.str "told", v]))))
    rfl rfl sc_law_outcome.nd LamX.takes0 (fun W pn xe tk po => ?_) (NamOk.cons (j := 2) ⟨by rfl, by decide, .inl T.m_WrongMark⟩ rfl rfl (fun a oe cls d pn hz hf => pss_one (ps_set (i := 1) sc_law_outcome.nd rfl (Or.inl rfl) (pe_tup (pa_cons pe_str (pa_cons (pe_xf T.x_WrongMark T.n_WrongMark_mark hz hf (pv 2)) pa_nil))))) (NamOk.cons (j := 2) ⟨by rfl, by decide, .inl T.m_TooMany⟩ rfl rfl (fun a oe cls d pn hz hf => pss_one (ps_set (i := 1) sc_law_outcome.nd rfl (Or.inl rfl) (pe_tup (pa_cons pe_str (pa_cons (pe_xf T.x_TooMany T.n_TooMany_what hz hf (pv 2)) pa_nil))))) (NamOk.cons (j := 2) ⟨by rfl, by decide, .inl T.m_UnknownName⟩ rfl rfl (fun a oe cls d pn hz hf => pss_one (ps_set (i := 1) sc_law_outcome.nd rfl (Or.inl rfl) (pe_tup (pa_cons pe_str (pa_cons (pe_xf T.x_UnknownName T.n_UnknownName_name hz hf (pv 2)) pa_nil))))) (NamOk.cons (j := 2) ⟨by rfl, by decide, .inl T.m_OutOfRange⟩ rfl rfl (fun a oe cls d pn hz hf => pss_one (ps_set (i := 1) sc_law_outcome.nd rfl (Or.inl rfl) (pe_tup (pa_cons pe_str (pa_cons (pe_xf T.x_OutOfRange T.n_OutOfRange_value hz hf (pv 2)) pa_nil))))) NamOk.nil))))) (pss_one (ps_ret (pv 1))), ?_⟩
  · refine ⟨fun pins s' σ H' D I h' => ?_⟩
    obtain ⟨Ech, hW, h1, h2, h3⟩ := h'
    have hp := fun z1 z2 => act _ pn xe Ech z1 z2 (takes_len tk) fun cls d σ' H' e hl => hW cls d σ' H' hl e
    exact (pss_one (ps_set (i := 1) sc_law_outcome.nd rfl (Or.inl rfl) (pe_tup (pa_cons pe_str (pa_cons (hp _ _) pa_nil))))).run pins s' σ H' D I ⟨h1, h2, h3⟩

  · refine ⟨wOut X.K Q (outs T), fun cls d σ' H' hl hw => ?_, rfl, hc, h⟩
    obtain ⟨x0, x1, x2, rfl⟩ : ∃ x0 x1 x2, σ' = [x0, x1, x2] := by
      match σ', hl with
      | [x0, x1, x2], _ => exact ⟨x0, x1, x2, rfl⟩
    obtain ⟨b, e1, y1, n1⟩ := hw
    refine ⟨b, e1, fun hb e ne => ?_, fun hb => ?_⟩
    · obtain ⟨rfl, dd, fs, v, rfl, hd, hv, hq⟩ := y1 hb
      walk_at "rd"
      refine rd_xf ?_
      walk_at "rd"
      refine ⟨rfl, rfl, dd, fs, v, rfl, hd, hv, ?_⟩
      walk_at "rd"
      refine ⟨by show 2 ≤ sizeLine; decide, fun p np => ?_⟩
      walk_at "rd"
      exact hq p np
    · obtain ⟨b2, e2, y2, n2⟩ := n1 hb
      refine ⟨b2, e2, fun hb e ne => ?_, fun hb => ?_⟩
      · obtain ⟨rfl, dd, fs, v, rfl, hd, hv, hq⟩ := y2 hb
        walk_at "rd"
        refine rd_xf ?_
        walk_at "rd"
        refine ⟨rfl, rfl, dd, fs, v, rfl, hd, hv, ?_⟩
        walk_at "rd"
        refine ⟨by show 2 ≤ sizeLine; decide, fun p np => ?_⟩
        walk_at "rd"
        exact hq p np
      · obtain ⟨b3, e3, y3, n3⟩ := n2 hb
        refine ⟨b3, e3, fun hb e ne => ?_, fun hb => ?_⟩
        · obtain ⟨rfl, dd, fs, v, rfl, hd, hv, hq⟩ := y3 hb
          walk_at "rd"
          refine rd_xf ?_
          walk_at "rd"
          refine ⟨rfl, rfl, dd, fs, v, rfl, hd, hv, ?_⟩
          walk_at "rd"
          refine ⟨by show 2 ≤ sizeLine; decide, fun p np => ?_⟩
          walk_at "rd"
          exact hq p np
        · obtain ⟨b4, e4, y4, n4⟩ := n3 hb
          refine ⟨b4, e4, fun hb e ne => ?_, fun hb => (n4 hb).elim⟩
          obtain ⟨rfl, dd, fs, v, rfl, hd, hv, hq⟩ := y4 hb
          walk_at "rd"
          refine rd_xf ?_
          walk_at "rd"
          refine ⟨rfl, rfl, dd, fs, v, rfl, hd, hv, ?_⟩
          walk_at "rd"
          refine ⟨by show 2 ≤ sizeLine; decide, fun p np => ?_⟩
          walk_at "rd"
          exact hq p np
end

/-! ### a test of what was told -/
theorem if_told {K : PySem.W.Frag} {outs : List (Addr × Str × Str)} {d : SpP} {dA : DA} {i : Nat} {e : Fr} {ys : List D} {x : DX} {k : DEn} {A : DS} {C : Addr} {f tag : Str} {y : D}
    (hA : ∀ (x' : DX) (kk : List D → Fr → Prop), kk ys e → dA x' e kk) (hs : e.g[i]? = some (.d (.tup [.str tag, y])))
    (hd : ∀ (kt : D → Prop) (kx : Addr → Str → D → Prop), kx C f y → d ys kt kx) (hw : ∀ (k : D → Fr → Prop) (e : Fr), k (.tup [.str tag, y]) e → wOutD K k e outs C f y)
    (p : (D.tup [.str tag, y]).plain = true) (s : SeqAt.shaped (D.tup [.str tag, y]).py = true) (q : (D.tup [.str tag, y]).py.eqv (D.tup [.str tag, y]).py = true) (h : k.nx e) :
    dIfS (dB (dOp oNeD (dLam K outs d dA) (dVar i))) A dNext x k e := by
  unfold dIfS dB dOp dLam
  refine hA _ _ (hd _ _ (hw _ _ ?_))
  simp only [dVar, hs]
  refine ⟨p, p, s, s, ?_⟩
  rw [q]
  exact h
theorem ret_told {K : PySem.W.Frag} {outs : List (Addr × Str × Str)} {d : SpP} {dA : DA} {i : Nat} {e : Fr} {ys : List D} {x : DX} {k : DEn} {C : Addr} {f tag : Str} {y : D}
    (hA : ∀ (x' : DX) (kk : List D → Fr → Prop), kk ys e → dA x' e kk) (hs : e.g[i]? = some (.d (.tup [.str tag, y])))
    (hd : ∀ (kt : D → Prop) (kx : Addr → Str → D → Prop), kx C f y → d ys kt kx) (hw : ∀ (k : D → Fr → Prop) (e : Fr), k (.tup [.str tag, y]) e → wOutD K k e outs C f y)
    (p : (D.tup [.str tag, y]).plain = true) (s : SeqAt.shaped (D.tup [.str tag, y]).py = true) (q : (D.tup [.str tag, y]).py.eqv (D.tup [.str tag, y]).py = true) (h : k.rt (.bl true) e.n) :
    dRet (dOp oEqD (dLam K outs d dA) (dVar i)) x k e := by
  unfold dRet dOp dLam
  refine hA _ _ (hd _ _ (hw _ _ ?_))
  simp only [dVar, hs]
  refine ⟨p, p, s, s, ?_⟩
  rw [q]
  exact h
theorem seq_peel {t u : DS} {x : DX} {k : DEn} {e : Fr} (e' : Fr) (h : ∀ k' : DEn, k'.nx e' → t x k' e) (q : u x k e') : dSeq t u x k e := h _ q

/-! ### drawn values, points, types -/
def Vl (p : Int × Int) : Prop := 0 ≤ p.1 ∧ p.1 ≤ p.2 ∧ 0 < p.2 ∧ (p.2 ≤ 40 ∨ p.2.natAbs ∣ 1000003)
def dSome : SpM := fun c ds k _ => ds = [.st] ∧ c ≤ 900000 ∧ ∀ (p : Int × Int) (c' : Nat), c' ≤ c + 3 → Vl p → k (Pd p) c'
def dPoint : SpM := fun c ds k _ => ∃ n : Nat, ds = [.st, .int (n : Int)] ∧ c ≤ 800000 ∧ n ≤ 4 ∧ ∀ (ps : List (Int × Int)) (c' : Nat), c' ≤ c + 30 → ps.length = n → (∀ p ∈ ps, Vl p) → k (.tup (ps.map Pd)) c'
def dLTypeOf : SpP := fun ds k _ => ∃ ps : List (Int × Int), ds = [.tup (ps.map Pd)] ∧ ps.length ≤ 4 ∧ (∀ p ∈ ps, Vl p) ∧ k (Rd (typF (numL ps) (lcmP ps : Nat)))
def raiL (q : List Int) : List Int := q.map fun l => if l = ((blocksL q : Nat) : Int) then (q.length : Int) + 1 else l
def dLRaised : SpP := fun ds k _ => ∃ q : List Int, ds = [Rd q] ∧ small q ∧ k (Rd (raiL q))
theorem Vl_low {a b : Int} (h0 : 0 ≤ a) (h1 : a ≤ b) (hb : 0 < b) (h : b ≤ 40 ∨ b = 1000003) : Vl (a / (Int.gcd a b : Int), b / (Int.gcd a b : Int)) := by
  obtain ⟨l0, l1⟩ := low_in h0 h1 hb
  have gp := Int.gcd_pos_of_ne_zero_right a (by omega : b ≠ 0)
  have p2 : 0 < b / (Int.gcd a b : Int) := Int.ediv_pos_of_pos_of_dvd hb (by omega) (Int.gcd_dvd_right _ _)
  have p3 : b / (Int.gcd a b : Int) ≤ b := Int.ediv_le_self _ (by omega)
  refine ⟨l0, l1, p2, ?_⟩
  rcases h with h | h
  · exact .inl (by show b / _ ≤ 40; omega)
  · refine .inr ?_
    have d : (b / (Int.gcd a b : Int)).natAbs ∣ b.natAbs := by
      refine Int.natAbs_dvd_natAbs.mpr ⟨_, (Int.ediv_mul_cancel (Int.gcd_dvd_right a b)).symm⟩
    rw [h] at d ⊢
    exact d
theorem seq_one {t u : DS} {x : DX} {k : DEn} {e : Fr} (e' : Fr) (h : ∀ k' : DEn, k'.nx e' → t x k' e) (q : u x k e') : dSeq t u x k e := h _ q
/-! ### the product of the denominators -/
def wideP (ps : List (Int × Int)) : Int := ps.foldl (fun w p => w * p.2) 1
theorem wideP_snoc (l : List (Int × Int)) (p : Int × Int) : wideP (l ++ [p]) = wideP l * p.2 := by
  unfold wideP
  rw [List.foldl_append]
  rfl
theorem prod_dvd : ∀ (ps : List (Int × Int)) (w : Int), w ∣ ps.foldl (fun w p => w * p.2) w ∧ ∀ p ∈ ps, p.2 ∣ ps.foldl (fun w p => w * p.2) w
  | [], w => ⟨⟨1, (Int.mul_one w).symm⟩, fun p h => nomatch h⟩
  | q :: r, w => by
    obtain ⟨h1, h2⟩ := prod_dvd r (w * q.2)
    refine ⟨Int.dvd_trans ⟨q.2, rfl⟩ h1, fun p hp => ?_⟩
    rcases List.mem_cons.mp hp with rfl | hp
    · exact Int.dvd_trans ⟨w, Int.mul_comm _ _⟩ h1
    · exact h2 p hp
theorem prod_pos : ∀ (ps : List (Int × Int)) (w : Int), 0 < w → (∀ p ∈ ps, Vl p) → 0 < ps.foldl (fun w p => w * p.2) w
  | [], w, h, _ => h
  | q :: r, w, h, hv => prod_pos r _ (Int.mul_pos h (hv q List.mem_cons_self).2.2.1) fun p m => hv p (List.mem_cons_of_mem _ m)
theorem Vl_le {p : Int × Int} (h : Vl p) : p.2 ≤ 1000003 := by
  rcases h.2.2.2 with h | h
  · omega
  · have := Nat.le_of_dvd (by decide) h
    omega
theorem prod_le : ∀ (ps : List (Int × Int)) (w : Int), 0 ≤ w → (∀ p ∈ ps, Vl p) → ps.foldl (fun w p => w * p.2) w ≤ w * 1000003 ^ ps.length
  | [], w, _, _ => by show w ≤ w * 1; omega
  | q :: r, w, h, hv => by
    have hq := hv q List.mem_cons_self
    have hl := Vl_le hq
    have h1 := prod_le r (w * q.2) (Int.mul_nonneg h (Int.le_of_lt hq.2.2.1)) fun p m => hv p (List.mem_cons_of_mem _ m)
    refine Int.le_trans h1 ?_
    show w * q.2 * 1000003 ^ r.length ≤ w * 1000003 ^ (r.length + 1)
    rw [Int.pow_succ, Int.mul_comm ((1000003 : Int) ^ r.length) 1000003, ← Int.mul_assoc]
    refine Int.mul_le_mul_of_nonneg_right (Int.mul_le_mul_of_nonneg_left hl h) ?_
    exact Int.le_of_lt (Int.pow_pos (by decide))
theorem wideP_small {ps : List (Int × Int)} (hl : ps.length ≤ 4) (hv : ∀ p ∈ ps, Vl p) : 0 < wideP ps ∧ wideP ps ≤ 1000003 ^ 4 := by
  refine ⟨prod_pos ps 1 (by decide) hv, ?_⟩
  have h1 := prod_le ps 1 (by decide) hv
  rw [Int.one_mul] at h1
  refine Int.le_trans h1 ?_
  have : (1000003 : Nat) ^ ps.length ≤ 1000003 ^ 4 := Nat.pow_le_pow_right (by decide) hl
  have e1 : ((1000003 : Int)) ^ ps.length = (((1000003 : Nat) ^ ps.length : Nat) : Int) := by rw [Int.natCast_pow]; rfl
  have e2 : ((1000003 : Int)) ^ 4 = (((1000003 : Nat) ^ 4 : Nat) : Int) := by rw [Int.natCast_pow]; rfl
  rw [e1, e2]
  exact Int.ofNat_le.mpr this
def numW (ps : List (Int × Int)) : List Int := ps.map fun p => p.1 * (wideP ps / p.2)
theorem lcm_wide {ps : List (Int × Int)} (hv : ∀ p ∈ ps, Vl p) : ∃ t : Int, 0 < t ∧ wideP ps = t * (lcmP ps : Nat) ∧ numW ps = (numL ps).map (t * ·) := by
  have wp := prod_pos ps 1 (by decide) hv
  have lp : 0 < lcmP ps := lcmF_pos ps 1 (by decide) fun p m => (hv p m).2.2.1
  have dv : lcmP ps ∣ (wideP ps).natAbs := lcmF_of ps 1 _ (Nat.one_dvd _) fun p m => Int.natAbs_dvd_natAbs.mpr ((prod_dvd ps 1).2 p m)
  obtain ⟨t, ht⟩ := dv
  have wt : wideP ps = (t : Int) * (lcmP ps : Nat) := by
    have h1 : ((wideP ps).natAbs : Int) = wideP ps := Int.natAbs_of_nonneg (Int.le_of_lt wp)
    rw [← h1, ht, Int.natCast_mul, Int.mul_comm]
  have tp : 0 < (t : Int) := by
    rcases Nat.eq_zero_or_pos t with h | h
    · rw [h, Int.natCast_zero, Int.zero_mul] at wt
      have : 0 < wideP ps := wp
      omega
    · omega
  refine ⟨t, tp, wt, ?_⟩
  unfold numW numL
  rw [List.map_map]
  refine List.map_congr_left fun p hp => ?_
  show p.1 * (wideP ps / p.2) = (t : Int) * (p.1 * ((lcmP ps : Nat) / p.2))
  have dp : p.2 ∣ ((lcmP ps : Nat) : Int) := by
    have := Int.ofNat_dvd.mpr ((lcmF_dvd ps 1).2 p hp)
    rw [Int.natAbs_of_nonneg (Int.le_of_lt (hv p hp).2.2.1)] at this
    exact this
  rw [wt, Int.mul_ediv_assoc _ dp, ← Int.mul_assoc, ← Int.mul_assoc, Int.mul_comm p.1]
theorem Vl_ok {ps : List (Int × Int)} (hl : ps.length ≤ 4) (hv : ∀ p ∈ ps, Vl p) : okP ps := by
  refine ⟨fun p m => ⟨(hv p m).1, (hv p m).2.1, (hv p m).2.2.1, by have := Vl_le (hv p m); omega⟩, ?_⟩
  let sm : Int × Int → Nat := fun p => if p.2 ≤ 40 then p.2.natAbs else 1
  have key : ∀ (l : List (Int × Int)), (∀ p ∈ l, Vl p) → (∀ p ∈ l, p.2.natAbs ∣ 1000003 * (l.map sm).foldr (· * ·) 1) ∧ (l.map sm).foldr (· * ·) 1 ≤ 40 ^ l.length ∧ 0 < (l.map sm).foldr (· * ·) 1 := by
    intro l
    induction l with
    | nil => intro _; exact ⟨fun p h => (nomatch h), Nat.le_refl _, by decide⟩
    | cons q r ih =>
      intro hq
      obtain ⟨h1, h2, h3⟩ := ih fun p m => hq p (List.mem_cons_of_mem _ m)
      have vq := hq q List.mem_cons_self
      have sq : sm q ≤ 40 ∧ 0 < sm q ∧ q.2.natAbs ∣ 1000003 * sm q := by
        show (if q.2 ≤ 40 then q.2.natAbs else 1) ≤ 40 ∧ 0 < (if q.2 ≤ 40 then q.2.natAbs else 1) ∧ q.2.natAbs ∣ 1000003 * (if q.2 ≤ 40 then q.2.natAbs else 1)
        have := vq.2.2.1
        by_cases c : q.2 ≤ 40
        · rw [if_pos c]
          exact ⟨by omega, by omega, ⟨1000003, Nat.mul_comm _ _⟩⟩
        · rw [if_neg c]
          exact ⟨by decide, by decide, by rw [Nat.mul_one]; exact vq.2.2.2.resolve_left c⟩
      refine ⟨fun p hp => ?_, ?_, Nat.mul_pos sq.2.1 h3⟩
      · show p.2.natAbs ∣ 1000003 * (sm q * (r.map sm).foldr (· * ·) 1)
        rcases List.mem_cons.mp hp with rfl | hp
        · exact Nat.dvd_trans sq.2.2 ⟨(r.map sm).foldr (· * ·) 1, by rw [Nat.mul_assoc]⟩
        · exact Nat.dvd_trans (h1 p hp) ⟨sm q, by rw [Nat.mul_comm (sm q), Nat.mul_assoc]⟩
      · show sm q * (r.map sm).foldr (· * ·) 1 ≤ 40 ^ (r.length + 1)
        rw [Nat.pow_succ, Nat.mul_comm]
        exact Nat.mul_le_mul h2 sq.1
  obtain ⟨k1, k2, k3⟩ := key ps hv
  have d := lcmF_of ps 1 (1000003 * (ps.map sm).foldr (· * ·) 1) (Nat.one_dvd _) k1
  have le := Nat.le_of_dvd (Nat.mul_pos (by decide) k3) d
  have l4 : (40 : Nat) ^ ps.length ≤ 40 ^ 4 := Nat.pow_le_pow_right (by decide) hl
  have : 1000003 * (ps.map sm).foldr (· * ·) 1 ≤ 1000003 * 40 ^ 4 := Nat.mul_le_mul_left _ (Nat.le_trans k2 l4)
  have e : 1000003 * 40 ^ 4 < 2 ^ 64 := by decide
  show lcmF 1 ps < _
  omega
section
variable {P : Program} {w : World} {K : PySem.W.Frag} {mg : Str → Option Value} {base : Heap}
theorem sc_law_some_value : FnScope ["m", "whole"] ["m"] (defScope s_law_some_value) := ⟨rfl, rfl, rfl, by decide +kernel, rfl, by decide +kernel, by decide +kernel⟩
theorem ok_law_some_value (T : Txt P K mg) {k : Nat} : FnOk P w K mg base CX0 (k + 10) T.f_law_some_value T.d_law_some_value ["m"] (spSt K dSome) := by
  refine T.F_law_some_value.ok sc_law_some_value (fun vs H Q E h => spSt_len (by rintro _ _ _ _ ⟨rfl, hc, hk⟩; rfl) h) (fun cdv A outer s H vs Q E hr h => ?_)
  refine ⟨_, (pss_cons (ps_set (i := 1) sc_law_some_value.nd rfl (Or.inl rfl) (pe_call (ok_law_of T) hr (by rfl) T.g_law_of T.F_law_of.kp T.b_law_of .nil pass0 (pa_cons (pv 0) (pa_cons (pe_lst (pa_cons pe_int (pa_cons pe_int (pa_cons pe_int (pa_cons pe_int (pa_cons pe_int (pa_cons pe_int (pa_cons (pe_op op_add pe_int (pe_call (ok_law_draw T) hr (by rfl) T.g_law_draw T.F_law_draw.kp T.b_law_draw .nil pass0 (pa_cons (pv 0) (pa_cons pe_int pa_nil)))) (pa_cons (pe_op op_add (pe_op op_pow pe_int pe_int) pe_int) pa_nil))))))))) pa_nil))))
    (pss_one (ps_ret (pe_call (ok_law_lowest T) hr (by rfl) T.g_law_lowest T.F_law_lowest.kp T.b_law_lowest .nil pass0 (pa_cons (pe_call (ok_law_draw T) hr (by rfl) T.g_law_draw T.F_law_draw.kp T.b_law_draw .nil pass0 (pa_cons (pv 0) (pa_cons (pe_op op_add (pv 1) pe_int) pa_nil))) (pa_cons (pv 1) pa_nil)))))), ?_⟩
  try dsimp only [L2.cxOf, L2.Cx.nox]
  refine' enterM h (fun S mo => ?sim) ?go
  (case sim => walk_at "sim")
  rintro n0 ds kt kx ⟨rfl, hc, hk⟩
  walk_at "d"
  refine ⟨40, rfl, by omega, by decide, by decide, fun r r0 r1 => ?_⟩
  walk_at "d"
  refine ⟨by unfold CPow; decide, _, rfl, by omega, (fun z => nomatch z), (show 8 ≤ 1000 by decide), fun y hy => ?_⟩
  obtain ⟨b, rfl, b0, b1⟩ : ∃ b : Int, y = .int b ∧ 0 < b ∧ (b ≤ 40 ∨ b = 1000003) := by
    simp only [List.mem_cons, List.not_mem_nil, or_false] at hy
    rcases hy with h | h | h | h | h | h | h | h <;> subst h
    · exact ⟨_, rfl, by decide, .inl (by decide)⟩
    · exact ⟨_, rfl, by decide, .inl (by decide)⟩
    · exact ⟨_, rfl, by decide, .inl (by decide)⟩
    · exact ⟨_, rfl, by decide, .inl (by decide)⟩
    · exact ⟨_, rfl, by decide, .inl (by decide)⟩
    · exact ⟨_, rfl, by decide, .inl (by decide)⟩
    · exact ⟨_, rfl, by omega, .inl (by omega)⟩
    · exact ⟨_, rfl, by decide, .inr (by decide)⟩
  walk_at "d"
  refine ⟨b + 1, rfl, by omega, by omega, Int.lt_of_lt_of_le (show b + 1 < 2000000 by omega) (by decide), fun a a0 a1 => ?_⟩
  refine ⟨a, b, rfl, a0, b0, wide_of (by omega), ?_⟩
  exact hk (a / (Int.gcd a b : Int), b / (Int.gcd a b : Int)) _ (by omega) (Vl_low a0 (by omega) b0 b1)
theorem sc_law_point : FnScope ["m", "count", "some", "spot"] ["m", "count"] (defScope s_law_point) := ⟨rfl, rfl, rfl, by decide +kernel, rfl, by decide +kernel, by decide +kernel⟩
theorem ok_law_point (T : Txt P K mg) {k : Nat} : FnOk P w K mg base CX0 (k + 15) T.f_law_point T.d_law_point ["m", "count"] (spSt K dPoint) := by
  refine T.F_law_point.ok sc_law_point (fun vs H Q E h => spSt_len (by rintro _ _ _ _ ⟨n, rfl, hc, hn, hk⟩; rfl) h) (fun cdv A outer s H vs Q E hr h => ?_)
  refine ⟨_, (pss_cons (ps_set (i := 2) sc_law_point.nd rfl (Or.inr rfl) (pe_lst (pa_cons (pe_call (ok_law_some_value T) hr (by rfl) T.g_law_some_value T.F_law_some_value.kp T.b_law_some_value .nil pass0 (pa_cons (pv 0) pa_nil)) (pa_cons (pe_call (ok_law_some_value T) hr (by rfl) T.g_law_some_value T.F_law_some_value.kp T.b_law_some_value .nil pass0 (pa_cons (pv 0) pa_nil)) (pa_cons (pe_tup (pa_cons pe_int (pa_cons pe_int pa_nil))) (pa_cons (pe_tup (pa_cons pe_int (pa_cons pe_int pa_nil))) pa_nil))))))
    (pss_one (ps_ret (pe_callTy (tuple_ofK K) (by rfl) T.z_tuple (by decide +kernel) (pa_cons (pe_lc (own := [("spot", 3)]) (g := (gName 3)) rfl sc_law_point.nd (pi_range1 rfl T.z_range (pa_cons (pv 1) pa_nil)) (blkOk_by (N := ["m", "count", "some", "spot"]) (sc := defScope s_law_point) (by decide +kernel)) (fun _ _ _ _ _ => (pg_name (i := 3) sc_law_point.nd rfl (Or.inl rfl))) (fun _ _ _ _ _ => pts_nil) (fun _ _ _ _ _ => (pe_call (ok_law_of T) hr (by rfl) T.g_law_of T.F_law_of.kp T.b_law_of .nil pass0 (pa_cons (pv 0) (pa_cons (pe_op op_cat (pe_lst (pa_cons (pe_call (ok_law_some_value T) hr (by rfl) T.g_law_some_value T.F_law_some_value.kp T.b_law_some_value .nil pass0 (pa_cons (pv 0) pa_nil)) pa_nil)) (pv 2)) pa_nil))))) pa_nil))))), ?_⟩
  try dsimp only [L2.cxOf, L2.Cx.nox]
  refine' enterM h (fun S mo => ?sim) ?go
  (case sim => walk_at "sim")
  rintro n0 ds kt kx ⟨n, rfl, hc, hn, hk⟩
  walk_at "d"
  refine ⟨rfl, by omega, fun p1 c1 h1 v1 => ?_⟩
  refine ⟨rfl, by omega, fun p2 c2 h2 v2 => ?_⟩
  refine ⟨by omega, by omega, ?_⟩
  unfold rangeD
  refine dlcN (fun i : Nat => D.int (0 + (i : Int))) Pd Vl (fun j e => ∃ c, e = ⟨c, [.d .st, .d (.int (n : Int)), .d (.lst [Pd p1, Pd p2, .tup [.int 0, .int 1], .tup [.int 1, .int 1]]), .u]⟩ ∧ c ≤ c2 + 4 * j) ⟨_, rfl, by omega⟩ ?_ ?_
  · rintro j y hy e1 hj ⟨c, rfl, hc'⟩ K1 hK
    rw [List.length_range] at hj
    have hj : j < n := by omega
    walk_at "d"
    refine ⟨rfl, by omega, fun p3 c3 h3 v3 => ?_⟩
    walk_at "d"
    refine ⟨_, rfl, by omega, (fun z => nomatch z), (show 5 ≤ 1000 by decide), fun z hz => ?_⟩
    have hz : z = Pd p3 ∨ z = Pd p1 ∨ z = Pd p2 ∨ z = Pd (0, 1) ∨ z = Pd (1, 1) := by simpa [Pd] using hz
    rcases hz with rfl | rfl | rfl | rfl | rfl
    · exact hK p3 _ v3 ⟨c3 + 1, rfl, by omega⟩
    · exact hK p1 _ v1 ⟨c3 + 1, rfl, by omega⟩
    · exact hK p2 _ v2 ⟨c3 + 1, rfl, by omega⟩
    · exact hK (0, 1) _ ⟨by decide, by decide, by decide, .inl (by decide)⟩ ⟨c3 + 1, rfl, by omega⟩
    · exact hK (1, 1) _ ⟨by decide, by decide, by decide, .inl (by decide)⟩ ⟨c3 + 1, rfl, by omega⟩
  · rintro zs e' hz hI ⟨c, rfl, hc'⟩
    rw [List.length_range] at hz hc'
    exact hk zs c (by omega) (by omega) hI
theorem sc_law_type_of : FnScope ["point", "wide", "value", "numbers", "inner", "top", "number"] ["point"] (defScope s_law_type_of) := ⟨rfl, rfl, rfl, by decide +kernel, rfl, by decide +kernel, by decide +kernel⟩
theorem ok_law_type_of (T : Txt P K mg) {k : Nat} : FnOk P w K mg base CX0 (k + 5) T.f_law_type_of T.d_law_type_of ["point"] (spPu K dLTypeOf) := by
  refine T.F_law_type_of.ok sc_law_type_of (fun vs H Q E h => spPu_len (by rintro _ _ _ ⟨ps, rfl, hl, hv, hk⟩; rfl) h) (fun cdv A outer s H vs Q E hr h => ?_)
  refine ⟨_, (pss_cons (ps_set (i := 1) sc_law_type_of.nd rfl (Or.inr rfl) pe_int)
    (pss_cons (ps_for PassesOwn.never rfl (pi_tup (pv 0)) (pg_name (i := 2) sc_law_type_of.nd rfl (Or.inl rfl)) (pss_one (ps_set (i := 1) sc_law_type_of.nd rfl (Or.inr rfl) (pe_op op_mul (pv 1) (pe_ix (ix_tupK K) (pv 2) pe_int (fun _ _ => rfl))))))
    (pss_cons (ps_setLc (i := 3) (own := [("value", 2)]) (g := (gName 2)) rfl sc_law_type_of.nd rfl rfl (sw_true rfl rfl rfl (by decide +kernel)) (pi_tup (pv 0)) (blkOk_by (N := ["point", "wide", "value", "numbers", "inner", "top", "number"]) (sc := defScope s_law_type_of) (by decide +kernel)) (fun _ _ _ _ _ => (pg_name (i := 2) sc_law_type_of.nd rfl (Or.inl rfl))) (fun _ _ _ _ _ => pts_nil) (fun _ _ _ _ _ => (pe_op op_mul (pe_ix (ix_tupK K) (pv 2) pe_int (fun _ _ => rfl)) (pe_op op_fdiv (pv 1) (pe_ix (ix_tupK K) (pv 2) pe_int (fun _ _ => rfl))))))
    (pss_cons (ps_set (i := 4) sc_law_type_of.nd rfl (Or.inr rfl) (pe_sortSet (by rfl) T.z_sorted (by rfl) T.z_set (pe_lc (own := [("number", 6)]) (g := (gName 6)) rfl sc_law_type_of.nd (pi_list (pv 3)) (blkOk_by (N := ["point", "wide", "value", "numbers", "inner", "top", "number"]) (sc := defScope s_law_type_of) (by decide +kernel)) (fun _ _ _ _ _ => (pg_name (i := 6) sc_law_type_of.nd rfl (Or.inl rfl))) (fun _ _ _ _ _ => (pts_one (pt_chain op_lt op_lt pe_int (pv 6) (pv 1)))) (fun _ _ _ _ _ => (pv 6)))))
    (pss_cons (ps_set (i := 5) sc_law_type_of.nd rfl (Or.inr rfl) (pe_op op_add (pe_callB (len_seqK K) (by rfl) T.z_len (by decide +kernel) (pa_cons (pv 0) pa_nil)) pe_int))
    (pss_one (ps_ret (pe_callTy (tuple_ofK K) (by rfl) T.z_tuple (by decide +kernel) (pa_cons (pe_lc (own := [("number", 6)]) (g := (gName 6)) rfl sc_law_type_of.nd (pi_list (pv 3)) (blkOk_by (N := ["point", "wide", "value", "numbers", "inner", "top", "number"]) (sc := defScope s_law_type_of) (by decide +kernel)) (fun _ _ _ _ _ => (pg_name (i := 6) sc_law_type_of.nd rfl (Or.inl rfl))) (fun _ _ _ _ _ => pts_nil) (fun _ _ _ _ _ => (pe_ifExp (pt_cmpR op_eq (pv 6) pe_int (by rfl)) pe_int (pe_ifExp (pt_cmpR op_eq (pv 6) (pv 1) (by rfl)) (pv 5) (pe_op op_add (pe_bmKx K PySem.F.plainAttrs_list PySem.F.slot_list_index PySem.F.type_list_index (mt_indexK K) (pv 4) (pa_cons (pv 6) pa_nil)) pe_int))))) pa_nil))))))))), ?_⟩
  try dsimp only [L2.cxOf, L2.Cx.nox]
  refine' enterP h (fun S mo => ?sim) ?go
  (case sim => walk_at "sim")
  rintro ds kt kx ⟨ps, rfl, hl, hv, hk⟩
  obtain ⟨wp, wl⟩ := wideP_small hl hv
  obtain ⟨t, tp, e1, e2⟩ := lcm_wide hv
  have lens : (numW ps).length = ps.length := by unfold numW; rw [List.length_map]
  refine seq_one ⟨0, [.d (.tup (ps.map Pd)), .d (.int 1), .u, .u, .u, .u, .u]⟩ (fun k' hk' => ?_) ?_
  · walk_at "d"
    exact hk'
  refine seq_with (fun e => ∃ y2 : Slo, e = ⟨0, [.d (.tup (ps.map Pd)), .d (.int (wideP ps)), y2, .u, .u, .u, .u]⟩) (fun k' hk' => ?_) ?_
  · refine for_with Pd (fun l e => ∃ y2 : Slo, e = ⟨0, [.d (.tup (ps.map Pd)), .d (.int (wideP l)), y2, .u, .u, .u, .u]⟩) _ (fun K hK => ?_) ⟨.u, rfl⟩ (fun e he => hk' e he) ?_ (l0 := ps)
    · walk_at "d"
      exact hK
    · rintro l p r e k2 h0 ⟨y2, rfl⟩ hN _ _ _
      have vp := hv p (by rw [h0]; simp)
      have le := Vl_le vp
      have p0 := vp.2.2.1
      unfold Pd
      walk_at "d"
      refine ⟨.inr ⟨by omega, by omega⟩, hN _ ⟨.d (Pd p), ?_⟩⟩
      rw [wideP_snoc]
      rfl
  rintro e ⟨y2, rfl⟩
  refine seq_one ⟨0, [.d (.tup (ps.map Pd)), .d (.int (wideP ps)), .u, .d (.lst ((numW ps).map .int)), .u, .u, .u]⟩ (fun k' hk' => ?_) ?_
  · walk_at "d"
    refine dlcMM Pd (fun p => .int (p.1 * (wideP ps / p.2))) (fun p hp K1 hK => ?_) ?_
    · have vp := hv p hp
      have le := Vl_le vp
      have p0 := vp.2.2.1
      have p1 := vp.1
      have p2 := vp.2.1
      unfold Pd
      walk_at "d"
      exact ⟨⟨by omega, by omega⟩, .inl ⟨by omega, by omega⟩, hK _ rfl⟩
    · unfold numW at hk'
      rw [List.map_map] at hk'
      exact hk'
  refine seq_one ⟨0, [.d (.tup (ps.map Pd)), .d (.int (wideP ps)), .u, .d (.lst ((numW ps).map .int)), .d (.lst ((innF (numW ps) (wideP ps)).map .int)), .u, .u]⟩ (fun k' hk' => ?_) ?_
  · walk_at "d"
    refine dlcFM D.int D.int (fun n => decide (0 < n) && decide (n < wideP ps)) (fun n hn K1 K2 hK => ?_) ?_
    · walk_at "d"
      by_cases c1 : 0 < n
      · by_cases c2 : n < wideP ps
        · simp only [c1, c2, decide_true, if_true, Bool.and_self] at hK ⊢
          exact (hK _ rfl).1 trivial
        · simp only [c1, c2, decide_true, decide_false, if_true, if_false, Bool.and_false, Bool.false_eq_true] at hK ⊢
          exact (hK _ rfl).2 trivial
      · simp only [c1, decide_false, if_false, Bool.false_and, Bool.false_eq_true] at hK ⊢
        exact (hK _ rfl).2 trivial
    · have lf : ((numW ps).filter fun n => decide (0 < n) && decide (n < wideP ps)).length ≤ 4 := by
        have := List.length_filter_le (fun n => decide (0 < n) && decide (n < wideP ps)) (numW ps)
        omega
      refine ⟨_, intsD_of _, by omega, fun out o1 o2 o3 => ?_⟩
      have oe : out = innF (numW ps) (wideP ps) := up_one o1 innF_up fun k => by
        rw [o2, innF_mem, List.mem_filter]
        simp
      rw [oe]
      exact hk'
  refine seq_one ⟨0, [.d (.tup (ps.map Pd)), .d (.int (wideP ps)), .u, .d (.lst ((numW ps).map .int)), .d (.lst ((innF (numW ps) (wideP ps)).map .int)), .d (.int ((ps.length : Int) + 1)), .u]⟩ (fun k' hk' => ?_) ?_
  · walk_at "d"
    rw [List.length_map]
    exact hk'
  walk_at "d"
  refine dlcMM D.int (fun n => D.int (lev (innF (numW ps) (wideP ps)) (wideP ps) ((ps.length : Int) + 1) n)) (fun n hn K1 hK => ?_) ?_
  · walk_at "d"
    obtain ⟨m, hm, rfl⟩ := List.mem_map.mp (e2 ▸ hn)
    obtain ⟨m0, m1⟩ := numL_in (Vl_ok hl hv) m hm
    have n0 : 0 ≤ t * m := Int.mul_nonneg (Int.le_of_lt tp) m0
    have n1 : t * m ≤ wideP ps := by
      rw [e1]
      exact Int.mul_le_mul_of_nonneg_left m1 (Int.le_of_lt tp)
    unfold lev at hK
    by_cases c1 : t * m = 0
    · rw [if_pos c1] at hK ⊢
      exact hK _ rfl
    · rw [if_neg c1] at hK ⊢
      by_cases c2 : t * m = wideP ps
      · rw [if_pos c2] at hK ⊢
        exact hK _ rfl
      · rw [if_neg c2] at hK ⊢
        exact ⟨_, intsD_of _, innF_mem.mpr ⟨hn, by omega, by omega⟩, hK _ rfl⟩
  · have e : ((numW ps).map fun n => D.int (lev (innF (numW ps) (wideP ps)) (wideP ps) ((ps.length : Int) + 1) n)) = (typF (numL ps) (lcmP ps : Nat)).map D.int := by
      rw [← typF_mul tp, ← e1, ← e2]
      unfold typF
      rw [List.map_map, lens]
      rfl
    rw [e]
    exact hk
theorem sc_law_raised : FnScope ["kind", "blocks", "level"] ["kind"] (defScope s_law_raised) := ⟨rfl, rfl, rfl, by decide +kernel, rfl, by decide +kernel, by decide +kernel⟩
theorem ok_law_raised (T : Txt P K mg) {k : Nat} : FnOk P w K mg base CX0 (k + 10) T.f_law_raised T.d_law_raised ["kind"] (spPu K dLRaised) := by
  refine T.F_law_raised.ok sc_law_raised (fun vs H Q E h => spPu_len (by rintro _ _ _ ⟨q, rfl, hs, hk⟩; rfl) h) (fun cdv A outer s H vs Q E hr h => ?_)
  refine ⟨_, (pss_cons (ps_set (i := 1) sc_law_raised.nd rfl (Or.inr rfl) (pe_call (ok_law_blocks T) hr (by rfl) T.g_law_blocks T.F_law_blocks.kp T.b_law_blocks .nil pass0 (pa_cons (pv 0) pa_nil)))
    (pss_one (ps_ret (pe_callTy (tuple_ofK K) (by rfl) T.z_tuple (by decide +kernel) (pa_cons (pe_lc (own := [("level", 2)]) (g := (gName 2)) rfl sc_law_raised.nd (pi_tup (pv 0)) (blkOk_by (N := ["kind", "blocks", "level"]) (sc := defScope s_law_raised) (by decide +kernel)) (fun _ _ _ _ _ => (pg_name (i := 2) sc_law_raised.nd rfl (Or.inl rfl))) (fun _ _ _ _ _ => pts_nil) (fun _ _ _ _ _ => (pe_ifExp (pt_cmpR op_eq (pv 2) (pv 1) (by rfl)) (pe_op op_add (pe_callB (len_seqK K) (by rfl) T.z_len (by decide +kernel) (pa_cons (pv 0) pa_nil)) pe_int) (pv 2)))) pa_nil))))), ?_⟩
  try dsimp only [L2.cxOf, L2.Cx.nox]
  refine' enterP h (fun S mo => ?sim) ?go
  (case sim => walk_at "sim")
  rintro ds kt kx ⟨q, rfl, hs, hk⟩
  walk_at "d"
  refine ⟨q, rfl, hs, ?_⟩
  unfold Rd at *
  walk_at "d"
  refine dlcMM D.int (fun l => .int (if l = ((blocksL q : Nat) : Int) then (q.length : Int) + 1 else l)) (fun l hl K hK => ?_) ?_
  · walk_at "d"
    by_cases e : l = ((blocksL q : Nat) : Int)
    · rw [if_pos e] at hK
      rw [if_pos (by simpa using e)]
      rw [List.length_map]
      exact hK _ rfl
    · rw [if_neg e] at hK
      rw [if_neg (by simpa using e)]
      exact hK _ rfl
  · unfold raiL at hk
    rw [List.map_map] at hk
    exact hk
end

/-! ### a drawn setting -/
def xyzw : List Str := ["x", "y", "z", "w"]
def okN (ns : List Str) : Prop := ∀ x ∈ ns, x ∈ (["x", "y", "z", "w", "q"] : List Str)
def dSet : SpM := fun c ds k _ => ds = [.st] ∧ c ≤ 800000 ∧ ∀ (s : Say) (ns : List Str) (c' : Nat), c' ≤ c + 300 → hasPlus s = false → s.words ≤ 34 → (∀ x ∈ s.leaves, x ∈ xyzw) → (∀ x ∈ s.leaves, x ∈ ns) → okN ns → ns.Nodup → ns.length ≤ 4 →
  k (.tup [Sd s, .tup (ns.map .str)]) c'
theorem xyzw_cut (j : Nat) (h : j < 4) : xyzw.drop j ≠ [] ∧ (xyzw.drop j).length ≤ 4 ∧ ∀ x ∈ xyzw.drop j, x ∈ xyzw := by
  refine ⟨fun z => ?_, ?_, fun x hx => List.mem_of_mem_drop hx⟩
  · have := congrArg List.length z
    rw [List.length_drop] at this
    have e : xyzw.length = 4 := rfl
    have e0 : ([] : List Str).length = 0 := rfl
    omega
  · rw [List.length_drop]
    have e : xyzw.length = 4 := rfl
    omega
theorem turn_namesIn : ∀ (s : Say) (f : List Str), (turnS s).namesIn f = s.namesIn f
  | .unk x, f => rfl
  | .yes, f => rfl
  | .no, f => rfl
  | .not a, f => turn_namesIn a f
  | .bin k a b, f => by
    show (turnS b).namesIn ((turnS a).namesIn f) = b.namesIn (a.namesIn f)
    rw [turn_namesIn a, turn_namesIn b]
section
variable {P : Program} {w : World} {K : PySem.W.Frag} {mg : Str → Option Value} {base : Heap}
theorem sc_law_setting : FnScope ["m", "saying", "names"] ["m"] (defScope s_law_setting) := ⟨rfl, rfl, rfl, by decide +kernel, rfl, by decide +kernel, by decide +kernel⟩
theorem ok_law_setting (T : Txt P K mg) {k : Nat} : FnOk P w K mg base CX0 (k + 115) T.f_law_setting T.d_law_setting ["m"] (spSt K dSet) := by
  refine T.F_law_setting.ok sc_law_setting (fun vs H Q E h => spSt_len (by rintro _ _ _ _ ⟨rfl, hc, hk⟩; rfl) h) (fun cdv A outer s H vs Q E hr h => ?_)
  refine ⟨_, (pss_cons (ps_set (i := 1) sc_law_setting.nd rfl (Or.inl rfl) (pe_call (ok_law_turned T) hr (by rfl) T.g_law_turned T.F_law_turned.kp T.b_law_turned .nil pass0 (pa_cons (pe_call (ok_law_saying T) hr (by rfl) T.g_law_saying T.F_law_saying.kp T.b_law_saying .nil pass0 (pa_cons (pv 0) (pa_cons (pe_slice (sl_listK K) (pe_lst (pa_cons pe_str (pa_cons pe_str (pa_cons pe_str (pa_cons pe_str pa_nil))))) (po_some (pe_call (ok_law_draw T) hr (by rfl) T.g_law_draw T.F_law_draw.kp T.b_law_draw .nil pass0 (pa_cons (pv 0) (pa_cons pe_int pa_nil)))) po_none) (pa_cons (pe_call (ok_law_of T) hr (by rfl) T.g_law_of T.F_law_of.kp T.b_law_of .nil pass0 (pa_cons (pv 0) (pa_cons (pe_lst (pa_cons pe_int (pa_cons pe_int (pa_cons pe_int (pa_cons pe_int (pa_cons pe_int pa_nil)))))) pa_nil))) pa_nil)))) pa_nil)))
    (pss_cons (ps_set (i := 2) sc_law_setting.nd rfl (Or.inl rfl) (pe_call (ok_law_names_in T) hr (by rfl) T.g_law_names_in T.F_law_names_in.kp T.b_law_names_in .nil pass0 (pa_cons (pv 1) (pa_cons (pe_lst pa_nil) pa_nil))))
    (pss_cons (ps_if (PW.pt (pw_and (pt_cmpR op_lt (pe_callB (len_seqK K) (by rfl) T.z_len (by decide +kernel) (pa_cons (pv 2) pa_nil)) pe_int (by rfl)) (pw_and1 (pt_cmpR op_eq (pe_call (ok_law_draw T) hr (by rfl) T.g_law_draw T.F_law_draw.kp T.b_law_draw .nil pass0 (pa_cons (pv 0) (pa_cons pe_int pa_nil))) pe_int (by rfl))))) (pss_one (ps_set (i := 2) sc_law_setting.nd rfl (Or.inl rfl) (pe_ix (ix_listK K) (pe_lst (pa_cons (pe_op op_cat (pe_lst (pa_cons pe_str pa_nil)) (pv 2)) (pa_cons (pe_op op_cat (pv 2) (pe_lst (pa_cons pe_str pa_nil))) pa_nil))) (pe_call (ok_law_draw T) hr (by rfl) T.g_law_draw T.F_law_draw.kp T.b_law_draw .nil pass0 (pa_cons (pv 0) (pa_cons pe_int pa_nil))) (fun _ _ => rfl)))) pss_nil)
    (pss_one (ps_ret (pe_tup (pa_cons (pv 1) (pa_cons (pe_callTy (tuple_ofK K) (by rfl) T.z_tuple (by decide +kernel) (pa_cons (pe_ifExp (pt_cmpR op_eq (pe_call (ok_law_draw T) hr (by rfl) T.g_law_draw T.F_law_draw.kp T.b_law_draw .nil pass0 (pa_cons (pv 0) (pa_cons pe_int pa_nil))) pe_int (by rfl)) (pe_revL (pv 2)) (pv 2)) pa_nil)) pa_nil)))))))), ?_⟩
  try dsimp only [L2.cxOf, L2.Cx.nox]
  refine' enterM h (fun S mo => ?sim) ?go
  (case sim => walk_at "sim")
  rintro n0 ds kt kx ⟨rfl, hc, hk⟩
  refine seq_with (fun e => ∃ (s : Say) (c : Nat), e = ⟨c, [.d .st, .d (Sd s), .u]⟩ ∧ c ≤ n0 + 200 ∧ hasPlus s = false ∧ s.words ≤ 34 ∧ ∀ x ∈ s.leaves, x ∈ xyzw) (fun k' hk' => ?_) ?_
  · walk_at "d"
    refine ⟨4, rfl, by omega, by decide, by decide, fun r r0 r1 => ?_⟩
    obtain ⟨j, rfl⟩ : ∃ j : Nat, r = (j : Int) := ⟨r.toNat, by omega⟩
    obtain ⟨x1, x2, x3⟩ := xyzw_cut j (by omega)
    have ec : cut ([D.str "x", D.str "y", D.str "z", D.str "w"] : List D) (some (j : Int)) none = (xyzw.drop j).map D.str := by
      rw [cut_from, List.map_drop]
      rfl
    walk_at "d"
    rw [ec]
    refine ⟨_, rfl, by omega, (fun z => nomatch z), (show 5 ≤ 1000 by decide), fun y hy => ?_⟩
    obtain ⟨size, rfl, h8⟩ : ∃ n : Nat, y = .int (n : Int) ∧ n ≤ 8 := by
      simp only [List.mem_cons, List.not_mem_nil, or_false] at hy
      rcases hy with h | h | h | h | h <;> subst h
      · exact ⟨0, rfl, by decide⟩
      · exact ⟨1, rfl, by decide⟩
      · exact ⟨2, rfl, by decide⟩
      · exact ⟨4, rfl, by decide⟩
      · exact ⟨8, rfl, by decide⟩
    refine ⟨xyzw.drop j, size, rfl, by omega, x1, by omega, by omega, fun s c' b1 b2 b3 b4 b5 => ?_⟩
    refine ⟨s, rfl, by omega, ?_⟩
    exact hk' _ ⟨turnS s, c', rfl, by omega, turn_plus s, by rw [turn_words]; omega, fun x hx => x3 x (b2 x (by rw [turn_leaves] at hx; exact hx))⟩
  rintro e ⟨s, c, rfl, hc1, hp, hw, hx⟩
  have dw := depth_words s
  have nl := namesIn_len s []
  have n4 : (s.namesIn []).length ≤ 4 := nodup_len _ xyzw (names_nodup s) fun x h => (namesIn_from s [] x h).elim (fun z => absurd z List.not_mem_nil) (hx x)
  refine seq_one ⟨c, [.d .st, .d (Sd s), .d (.lst ((s.namesIn []).map .str))]⟩ (fun k' hk' => ?_) ?_
  · walk_at "d"
    exact ⟨s, [], rfl, by omega, by show 0 + s.words ≤ _; omega, hk'⟩
  refine seq_with (fun e => ∃ (ns : List Str) (c' : Nat), e = ⟨c', [.d .st, .d (Sd s), .d (.lst (ns.map .str))]⟩ ∧ c' ≤ c + 5 ∧ (∀ x ∈ s.leaves, x ∈ ns) ∧ okN ns ∧ ns.Nodup ∧ ns.length ≤ 4) (fun k' hk' => ?_) ?_
  · have hN : okN (s.namesIn []) := fun x h => by
      have := (namesIn_from s [] x h).elim (fun z => absurd z List.not_mem_nil) (hx x)
      unfold xyzw at this
      simp only [List.mem_cons, List.not_mem_nil, or_false] at this ⊢
      rcases this with h | h | h | h <;> simp [h]
    have hL : ∀ x ∈ s.leaves, x ∈ s.namesIn [] := fun x h => names_leaves s x h
    have hq : ("q" : Str) ∉ s.namesIn [] := fun h => by
      have := (namesIn_from s [] _ h).elim (fun z => absurd z List.not_mem_nil) (hx _)
      exact absurd this (by decide +kernel)
    walk_at "d"
    rw [List.length_map]
    split
    · rename_i c4
      refine ⟨3, rfl, by omega, by decide, by decide, fun r r0 r1 => ?_⟩
      walk_at "d"
      split
      · refine ⟨by omega, by omega, 2, rfl, by omega, by decide, by decide, fun r2 q0 q1 => ?_⟩
        have : r2 = 0 ∨ r2 = 1 := by omega
        rcases this with rfl | rfl
        · walk_at "d"
          refine hk' _ ⟨("q" : Str) :: s.namesIn [], _, rfl, by omega, fun x h => List.mem_cons_of_mem _ (hL x h), fun x h => ?_, List.nodup_cons.mpr ⟨hq, names_nodup s⟩, by rw [List.length_cons]; omega⟩
          rcases List.mem_cons.mp h with rfl | h
          · decide +kernel
          · exact hN x h
        · walk_at "d"
          refine hk' _ ⟨s.namesIn [] ++ [("q" : Str)], _, by rw [List.map_append]; rfl, by omega, fun x h => List.mem_append_left _ (hL x h), fun x h => ?_, List.nodup_append.mpr ⟨names_nodup s, by simp, fun a ha b hb e => hq (by rw [← List.mem_singleton.mp hb, ← e]; exact ha)⟩, by rw [List.length_append, List.length_cons, List.length_nil]; omega⟩
          rcases List.mem_append.mp h with h | h
          · exact hN x h
          · rw [List.mem_singleton.mp h]
            decide +kernel
      · exact hk' _ ⟨s.namesIn [], _, rfl, by omega, hL, hN, names_nodup s, n4⟩
    · exact hk' _ ⟨s.namesIn [], _, rfl, by omega, hL, hN, names_nodup s, n4⟩
  rintro e ⟨ns, c', rfl, hc2, h1, h2, h3, h4⟩
  walk_at "d"
  refine ⟨2, rfl, by omega, by decide, by decide, fun r r0 r1 => ?_⟩
  walk_at "d"
  split
  · rw [← List.map_reverse]
    exact hk s ns.reverse _ (by omega) hp hw hx (fun x h => List.mem_reverse.mpr (h1 x h)) (fun x h => h2 x (List.mem_reverse.mp h)) (List.pairwise_reverse.mpr (h3.imp Ne.symm)) (by rw [List.length_reverse]; exact h4)
  · exact hk s ns _ (by omega) hp hw hx h1 h2 h3 h4
end

/-! ### values by order, as the law asks -/
def dRight : SpM := fun n ds k _ => ds = [.st] ∧ n ≤ 500000 ∧ ∀ c, c ≤ n + 1000 → k (.bl true) c
theorem seq_skip {t : DT} {a u : DS} {x : DX} {k : DEn} {e : Fr} (h : ∀ kk : Bool → Fr → Prop, kk false e → t x e kk) (q : u x k e) : dSeq (dIfS t a dNext) u x k e := h _ (by rw [if_neg Bool.false_ne_true]; exact q)
/-- a dict of names and the numbers of a row -/
theorem dict_row {ns : List Str} {q : List Int} (nd : ns.Nodup) (hl : q.length = ns.length) :
    mergeD [] ((ns.map Sum.inr).zip (q.map D.int)) = (ns.map Sum.inr).zip (q.map D.int) ∧ ∀ x ∈ ns, valD ((ns.map Sum.inr).zip (q.map D.int)) (.inr x) = some (.int (colR ns q x)) := by
  have nk : (((ns.map Sum.inr).zip (q.map D.int)).map Prod.fst : List Key).Nodup := by
    rw [List.map_fst_zip (by rw [List.length_map, List.length_map]; omega)]
    exact nd.map _ fun a b hne z => hne (Sum.inr.inj z)
  refine ⟨by rw [merge_new nk (acc := []) (fun _ _ q hq => nomatch hq), List.nil_append], fun x hxn => ?_⟩
  have hi : ns.idxOf x < ns.length := List.idxOf_lt_length_of_mem hxn
  refine val_mem nk ?_
  rw [List.mem_iff_getElem]
  refine ⟨ns.idxOf x, by rw [List.length_zip, List.length_map, List.length_map]; omega, ?_⟩
  rw [List.getElem_zip, List.getElem_map, List.getElem_map, List.getElem_idxOf]
  unfold colR
  rw [List.getD_eq_getElem?_getD, List.getElem?_eq_getElem (by omega)]
  rfl
theorem ref_fine {M W N : Addr} {s : Say} {ns : List Str} (h1 : hasPlus s = false) (h2 : (s.namesIn []).length ≤ 4) (h3 : ∀ x ∈ s.leaves, x ∈ ns) : refO M W N s ns = none := by
  unfold refO
  rw [h1, if_neg Bool.false_ne_true, if_neg (by omega)]
  have : (s.namesIn []).find? (fun x => decide (x ∉ ns)) = none := List.find?_eq_none.mpr fun x hx => by
    have := (namesIn_from s [] x hx).elim (fun z => absurd z List.not_mem_nil) (h3 x)
    simp [this]
  rw [this]
  rfl
theorem col_mul {ns : List Str} {q : List Int} {t : Int} : colR ns (q.map (t * ·)) = fun x => t * colR ns q x := by
  funext x
  unfold colR
  rw [List.getD_eq_getElem?_getD, List.getD_eq_getElem?_getD, List.getElem?_map]
  cases q[ns.idxOf x]? with
  | none => exact (Int.mul_zero t).symm
  | some n => rfl
theorem due_same {ns : List Str} {ps : List (Int × Int)} {s : Say} (hv : ∀ p ∈ ps, Vl p) : lowD (oSay (colR ns (numW ps)) (wideP ps) s) (wideP ps) = lowD (oSay (colR ns (numL ps)) (lcmP ps : Nat) s) (lcmP ps : Nat) := by
  obtain ⟨t, tp, e1, e2⟩ := lcm_wide hv
  rw [e1, e2, col_mul, oSay_mul tp, Int.mul_comm t, Int.mul_comm t, low_mul tp]
theorem typ_in {ns : List Int} {W : Int} : ∀ l ∈ typF ns W, 0 ≤ l ∧ l ≤ (ns.length : Int) + 1 := fun l hl => by
  unfold typF at hl
  obtain ⟨n, hn, rfl⟩ := List.mem_map.mp hl
  have h1 := innF_len ns W
  have h2 : (innF ns W).idxOf n ≤ (innF ns W).length := List.idxOf_le_length
  unfold lev
  split
  · omega
  · split <;> omega
theorem typ_len {ns : List Int} {W : Int} : (typF ns W).length = ns.length := by unfold typF; rw [List.length_map]
theorem small_int {a : Int} {n : Nat} (h0 : 0 ≤ a) (h1 : a ≤ (n : Nat)) (hn : n < 2 ^ 64) : a.natAbs < 10 ^ 480 := by
  refine Nat.lt_of_lt_of_le (show a.natAbs < 2 ^ 64 by omega) ?_
  exact Nat.le_trans (show 2 ^ 64 ≤ 10 ^ 20 by decide) (Nat.pow_le_pow_right (by decide) (by decide))
theorem sh_told {d : D} {b n : Nat} (h : Bg b n d) (hb : b ≤ 100) (hn : n ≤ 20) : Sh (.tup [.str "told", d]) := by
  have := bg_tup (b := b + 8) (d := n) (xs := [.str "told", d]) fun x hx => by
    rcases List.mem_cons.mp hx with rfl | hx
    · exact (bg_str (by decide +kernel) (by decide)).le (by omega) (by omega)
    · rw [List.mem_singleton.mp hx]
      exact h.le (by omega) (Nat.le_refl _)
  exact sh_bg this (by show 2 * (b + 8 + 1) ≤ 10000; omega) (by omega)
theorem bg_pair {p : Int × Int} {n : Nat} (h0 : 0 ≤ p.1) (h1 : p.1 ≤ p.2) (h2 : p.2 ≤ (n : Nat)) (hn : n < 2 ^ 64) : Bg 2 1 (Pd p) := bg_tup (b := 0) (d := 0) (xs := [.int p.1, .int p.2]) fun x hx => by
  rcases List.mem_cons.mp hx with rfl | hx
  · exact bg_int (small_int h0 (by omega) hn)
  · rw [List.mem_singleton.mp hx]
    exact bg_int (small_int (by omega) h2 hn)
theorem bg_low {a b : Int} {n : Nat} (h0 : 0 ≤ a) (h1 : a ≤ b) (hb : 0 < b) (h2 : b ≤ (n : Nat)) (hn : n < 2 ^ 64) : Bg 2 1 (lowD a b) := by
  obtain ⟨l0, l1⟩ := low_in h0 h1 hb
  exact bg_pair l0 l1 (Int.le_trans (Int.ediv_le_self _ (by omega)) h2) hn
section
variable {P : Program} {w : World} {K : PySem.W.Frag} {mg : Str → Option Value} {base : Heap}
theorem sc_law_value_right : FnScope ["m", "saying", "names", "point", "wide", "kind", "value", "table", "due"] ["m"] (defScope s_law_value_right) := ⟨rfl, rfl, rfl, by decide +kernel, rfl, by decide +kernel, by decide +kernel⟩
theorem ok_law_value_right (T : Txt P K mg) (B_law_value_right : LamX.TabB base mg T.c_law_value_right T.P_law_value_right) {k : Nat} : FnG P w K mg base CX0 (k + 130) T.f_law_value_right T.d_law_value_right ["m"] (spSL K (tabsT T) dRight) := by
  refine okGL T.F_law_value_right sc_law_value_right (fun vs H Q E h => spSL_len (by rintro _ _ _ ⟨rfl, hn, hk⟩; rfl) h) (fun A outer s H vs Q E hr gd h => ?_)
  refine ⟨_, (pss_cons (ps_asg (pe_call (ok_law_setting T) hr (by rfl) T.g_law_setting T.F_law_setting.kp T.b_law_setting .nil pass0 (pa_cons (pv 0) pa_nil)) (pg_tup rfl (pgs_cons (pg_name (i := 1) sc_law_value_right.nd rfl (Or.inr rfl)) (pgs_cons (pg_name (i := 2) sc_law_value_right.nd rfl (Or.inr rfl)) pgs_nil))))
    (pss_cons (ps_set (i := 3) sc_law_value_right.nd rfl (Or.inr rfl) (pe_call (ok_law_point T) hr (by rfl) T.g_law_point T.F_law_point.kp T.b_law_point .nil pass0 (pa_cons (pv 0) (pa_cons (pe_callB (len_seqK K) (by rfl) T.z_len (by decide +kernel) (pa_cons (pv 2) pa_nil)) pa_nil))))
    (pss_cons (ps_asg (pe_tup (pa_cons pe_int (pa_cons (pe_call (ok_law_type_of T) hr (by rfl) T.g_law_type_of T.F_law_type_of.kp T.b_law_type_of .nil pass0 (pa_cons (pv 3) pa_nil)) pa_nil))) (pg_tup rfl (pgs_cons (pg_name (i := 4) sc_law_value_right.nd rfl (Or.inr rfl)) (pgs_cons (pg_name (i := 5) sc_law_value_right.nd rfl (Or.inr rfl)) pgs_nil))))
    (pss_cons (ps_for PassesOwn.never rfl (pi_tup (pv 3)) (pg_name (i := 6) sc_law_value_right.nd rfl (Or.inl rfl)) (pss_one (ps_set (i := 4) sc_law_value_right.nd rfl (Or.inr rfl) (pe_op op_mul (pv 4) (pe_ix (ix_tupK K) (pv 6) pe_int (fun _ _ => rfl))))))
    (pss_cons (ps_set (i := 7) sc_law_value_right.nd rfl (Or.inl rfl) (pe_dictZip (by rfl) T.z_dict (by rfl) T.z_zip (pa_cons (pv 2) (pa_cons (pe_lc (own := [("value", 6)]) (g := (gName 6)) rfl sc_law_value_right.nd (pi_tup (pv 3)) (blkOk_by (N := ["m", "saying", "names", "point", "wide", "kind", "value", "table", "due"]) (sc := defScope s_law_value_right) (by decide +kernel)) (fun _ _ _ _ _ => (pg_name (i := 6) sc_law_value_right.nd rfl (Or.inl rfl))) (fun _ _ _ _ _ => pts_nil) (fun _ _ _ _ _ => (pe_op op_mul (pe_ix (ix_tupK K) (pv 6) pe_int (fun _ _ => rfl)) (pe_op op_fdiv (pv 4) (pe_ix (ix_tupK K) (pv 6) pe_int (fun _ _ => rfl)))))) pa_nil))))
    (pss_cons (ps_set (i := 8) sc_law_value_right.nd rfl (Or.inl rfl) (pe_call (ok_law_lowest T) hr (by rfl) T.g_law_lowest T.F_law_lowest.kp T.b_law_lowest .nil pass0 (pa_cons (pe_call (ok_law_ranked T) hr (by rfl) T.g_law_ranked T.F_law_ranked.kp T.b_law_ranked .nil pass0 (pa_cons (pv 1) (pa_cons (pv 7) (pa_cons (pv 4) pa_nil)))) (pa_cons (pv 4) pa_nil))))
    (pss_cons (ps_if (pt_cmpR op_ne (pe_callB (reprK K gd hr) (by rfl) T.z_repr (by decide +kernel) (pa_cons (pe_lam (T := tabsT T) (by rfl) T.g_law_outcome T.F_law_outcome T.b_law_outcome sc_law_outcome rfl (Or.inl rfl) (fun cdv => gives_outcome T rfl rfl _ cdv) B_law_value_right rfl (lamM_law_value_right T) (lamU_law_value_right T) hr (show LamX.LamS (defScope s_law_value_right) _ from LamX.lamS_by (by decide +kernel)) rfl (fun _ _ _ _ _ => rfl) (fun A outer s H E f c hrl => (pe_call (ok_order_value T) hrl (by rfl) T.g_order_value T.F_order_value.kp T.b_order_value .nil (passes_call (takes_of rfl rfl rfl rfl) fun _ _ _ _ h => h) (pa_cons (pv 1) (pa_cons (pv 2) (pa_cons (pv 3) pa_nil)))))) pa_nil)) (pe_callB (reprK K gd hr) (by rfl) T.z_repr (by decide +kernel) (pa_cons (pe_tup (pa_cons pe_str (pa_cons (pv 8) pa_nil))) pa_nil)) (by rfl)) (pss_one (ps_ret pe_bl)) pss_nil)
    (pss_cons (ps_set (i := 8) sc_law_value_right.nd rfl (Or.inl rfl) (pe_call (ok_law_ranked T) hr (by rfl) T.g_law_ranked T.F_law_ranked.kp T.b_law_ranked .nil pass0 (pa_cons (pv 1) (pa_cons (pe_dictZip (by rfl) T.z_dict (by rfl) T.z_zip (pa_cons (pv 2) (pa_cons (pv 5) pa_nil))) (pa_cons (pe_op op_add (pe_callB (len_seqK K) (by rfl) T.z_len (by decide +kernel) (pa_cons (pv 2) pa_nil)) pe_int) pa_nil)))))
    (pss_one (ps_ret (pe_cmpR op_eq (pe_callB (reprK K gd hr) (by rfl) T.z_repr (by decide +kernel) (pa_cons (pe_lam (T := tabsT T) (by rfl) T.g_law_outcome T.F_law_outcome T.b_law_outcome sc_law_outcome rfl (Or.inl rfl) (fun cdv => gives_outcome T rfl rfl _ cdv) B_law_value_right rfl (lamM_law_value_right T) (lamU_law_value_right T) hr (show LamX.LamS (defScope s_law_value_right) _ from LamX.lamS_by (by decide +kernel)) rfl (fun _ _ _ _ _ => rfl) (fun A outer s H E f c hrl => (pe_call (ok_order_level T) hrl (by rfl) T.g_order_level T.F_order_level.kp T.b_order_level .nil (passes_call (takes_of rfl rfl rfl rfl) fun _ _ _ _ h => h) (pa_cons (pv 1) (pa_cons (pv 2) (pa_cons (pv 5) pa_nil)))))) pa_nil)) (pe_callB (reprK K gd hr) (by rfl) T.z_repr (by decide +kernel) (pa_cons (pe_tup (pa_cons pe_str (pa_cons (pv 8) pa_nil))) pa_nil)) (by rfl)))))))))))), ?_⟩
  try dsimp only [L2.cxOf, L2.Cx.nox]
  refine' enterL h (fun S mo hS => ?sim) ?go
  (case sim => walk_at "sim")
  rintro n0 ds kt ⟨rfl, hn, hk⟩
  refine seq_with (fun e => ∃ (s : Say) (ns : List Str) (c : Nat), e = ⟨c, [.d .st, .d (Sd s), .d (.tup (ns.map .str)), .u, .u, .u, .u, .u, .u]⟩ ∧ c ≤ n0 + 300 ∧ hasPlus s = false ∧ s.words ≤ 34 ∧ (∀ x ∈ s.leaves, x ∈ xyzw) ∧ (∀ x ∈ s.leaves, x ∈ ns) ∧ okN ns ∧ ns.Nodup ∧ ns.length ≤ 4) (fun k' hk' => ?_) ?_
  · walk_at "d"
    exact ⟨rfl, by omega, fun s ns c' b1 b2 b3 b4 b5 b6 b7 b8 => hk' _ ⟨s, ns, c', rfl, b1, b2, b3, b4, b5, b6, b7, b8⟩⟩
  rintro e ⟨s, ns, c1, rfl, hc1, hp, hw, hx4, hx, hN, nd, h4⟩
  have dw := depth_words s
  have n4 : (s.namesIn []).length ≤ 4 := nodup_len _ xyzw (names_nodup s) fun x h => (namesIn_from s [] x h).elim (fun z => absurd z List.not_mem_nil) (hx4 x)
  have rf : ∀ {M W N : Addr}, refO M W N s ns = none := ref_fine hp n4 hx
  refine seq_with (fun e => ∃ (ps : List (Int × Int)) (c : Nat), e = ⟨c, [.d .st, .d (Sd s), .d (.tup (ns.map .str)), .d (.tup (ps.map Pd)), .u, .u, .u, .u, .u]⟩ ∧ c ≤ c1 + 30 ∧ ps.length = ns.length ∧ ∀ p ∈ ps, Vl p) (fun k' hk' => ?_) ?_
  · walk_at "d"
    exact ⟨ns.length, by rw [List.length_map], by omega, h4, fun ps c' b1 b2 b3 => hk' _ ⟨ps, c', rfl, b1, b2, b3⟩⟩
  rintro e ⟨ps, c2, rfl, hc2, hl, hv⟩
  have ok := Vl_ok (by omega) hv
  obtain ⟨wp, wl⟩ := wideP_small (by omega) hv
  have lp : 0 < lcmP ps := lcmF_pos ps 1 (by decide) fun p m => (ok.1 p m).2.2.1
  generalize hq : typF (numL ps) (lcmP ps : Nat) = q
  have qin : ∀ l ∈ q, 0 ≤ l ∧ l ≤ (ns.length : Int) + 1 := fun l h => by
    have := typ_in l (hq ▸ h)
    rw [numL_len, hl] at this
    exact this
  have ql : q.length = ns.length := by rw [← hq, typ_len, numL_len, hl]
  refine seq_one ⟨c2, [.d .st, .d (Sd s), .d (.tup (ns.map .str)), .d (.tup (ps.map Pd)), .d (.int 1), .d (Rd q), .u, .u, .u]⟩ (fun k' hk' => ?_) ?_
  · walk_at "d"
    refine ⟨ps, rfl, by omega, hv, ?_⟩
    rw [hq]
    walk_at "d"
    exact hk'
  refine seq_with (fun e => ∃ y6 : Slo, e = ⟨c2, [.d .st, .d (Sd s), .d (.tup (ns.map .str)), .d (.tup (ps.map Pd)), .d (.int (wideP ps)), .d (Rd q), y6, .u, .u]⟩) (fun k' hk' => ?_) ?_
  · refine for_with Pd (fun l e => ∃ y6 : Slo, e = ⟨c2, [.d .st, .d (Sd s), .d (.tup (ns.map .str)), .d (.tup (ps.map Pd)), .d (.int (wideP l)), .d (Rd q), y6, .u, .u]⟩) _ (fun K hK => ?_) ⟨.u, rfl⟩ (fun e he => hk' e he) ?_ (l0 := ps)
    · walk_at "d"
      exact hK
    · rintro l p r e k2 h0 ⟨y2, rfl⟩ hN2 _ _ _
      have vp := hv p (by rw [h0]; simp)
      have le := Vl_le vp
      have p0 := vp.2.2.1
      unfold Pd
      walk_at "d"
      refine ⟨.inr ⟨by omega, by omega⟩, hN2 _ ⟨.d (Pd p), ?_⟩⟩
      rw [wideP_snoc]
      rfl
  rintro e ⟨y6, rfl⟩
  have lens : (numW ps).length = ns.length := by unfold numW; rw [List.length_map, hl]
  obtain ⟨d1, d2⟩ := dict_row nd lens
  refine seq_one ⟨c2, [.d .st, .d (Sd s), .d (.tup (ns.map .str)), .d (.tup (ps.map Pd)), .d (.int (wideP ps)), .d (Rd q), .u, .d (.dic ((ns.map Sum.inr).zip ((numW ps).map .int))), .u]⟩ (fun k' hk' => ?_) ?_
  · walk_at "d"
    refine dlcMM Pd (fun p => .int (p.1 * (wideP ps / p.2))) (fun p hpm K1 hK => ?_) ?_
    · have vp := hv p hpm
      have le := Vl_le vp
      have p0 := vp.2.2.1
      have p1 := vp.1
      have p2 := vp.2.1
      unfold Pd
      walk_at "d"
      exact ⟨⟨by omega, by omega⟩, .inl ⟨by omega, by omega⟩, hK _ rfl⟩
    · have e : (ps.map fun p => D.int (p.1 * (wideP ps / p.2))) = (numW ps).map D.int := by
        unfold numW
        rw [List.map_map]
        rfl
      rw [e]
      walk_at "d"
      refine ⟨by rw [List.length_map, List.length_map, lens], _, keysD_str ns, ?_⟩
      rw [d1]
      exact hk'
  have oin : 0 ≤ oSay (colR ns (numL ps)) (lcmP ps : Nat) s ∧ oSay (colR ns (numL ps)) (lcmP ps : Nat) s ≤ (lcmP ps : Nat) := oSay_in (Int.natCast_nonneg _) s fun x _ => colR_in (Int.natCast_nonneg _) (numL_in ok) x
  have win : 0 ≤ oSay (colR ns (numW ps)) (wideP ps) s := by
    obtain ⟨t, tp, e1, e2⟩ := lcm_wide hv
    rw [e1, e2, col_mul, oSay_mul tp]
    exact Int.mul_nonneg (Int.le_of_lt tp) oin.1
  refine seq_one ⟨c2, [.d .st, .d (Sd s), .d (.tup (ns.map .str)), .d (.tup (ps.map Pd)), .d (.int (wideP ps)), .d (Rd q), .u, .d (.dic ((ns.map Sum.inr).zip ((numW ps).map .int))), .d (lowD (oSay (colR ns (numL ps)) (lcmP ps : Nat) s) (lcmP ps : Nat))]⟩ (fun k' hk' => ?_) ?_
  · walk_at "d"
    refine ⟨s, _, colR ns (numW ps), _, rfl, by omega, hp, fun x h => d2 x (hx x h), ?_⟩
    refine ⟨_, _, rfl, win, wp, ?_, ?_⟩
    · show (wideP ps).natAbs < 2 ^ 9000
      refine Nat.lt_of_le_of_lt (show (wideP ps).natAbs ≤ 1000003 ^ 4 by omega) ?_
      exact Nat.lt_of_lt_of_le (show 1000003 ^ 4 < 2 ^ 90 by decide) (Nat.pow_le_pow_right (by decide) (by decide))
    · rw [due_same hv]
      exact hk'
  have sh1 := sh_told (bg_low oin.1 oin.2 (by omega) (Int.le_refl _) ok.2) (by decide) (by decide)
  refine seq_skip (fun kk h => by
    walk_at "d"
    refine ⟨s, ns, ps, rfl, by omega, nd, by omega, hl, ok, ?_⟩
    rw [rf]
    simp only [orRef]
    obtain ⟨b1, b2, b3, b4, b5⟩ := sh1
    refine ⟨b1, b2, b3, b4, b5, b1, b2, b3, b4, b5, ?_⟩
    rw [decide_true]
    exact h) ?_
  obtain ⟨g1, g2⟩ := dict_row nd ql
  have qi := oSay_in (f := colR ns q) (W := (ns.length : Int) + 1) (by omega) s fun x _ => colR_in (by omega) qin x
  refine seq_one ⟨c2, [.d .st, .d (Sd s), .d (.tup (ns.map .str)), .d (.tup (ps.map Pd)), .d (.int (wideP ps)), .d (Rd q), .u, .d (.dic ((ns.map Sum.inr).zip ((numW ps).map .int))), .d (.int (oSay (colR ns q) ((ns.length : Int) + 1) s))]⟩ (fun k' hk' => ?_) ?_
  · unfold Rd at hk' ⊢
    walk_at "d"
    refine ⟨by rw [List.length_map, List.length_map, ql], _, keysD_str ns, ?_⟩
    rw [g1, List.length_map]
    exact ⟨s, _, colR ns q, _, rfl, by omega, hp, fun x h => g2 x (hx x h), hk'⟩
  have sh2 := sh_told (bg_int (i := oSay (colR ns q) ((ns.length : Int) + 1) s) (small_int (n := 10) qi.1 (by omega) (by decide))) (by decide) (by decide)
  walk_at "d"
  refine ⟨s, ns, q, rfl, by omega, nd, ql, ?_⟩
  rw [rf]
  simp only [orRef]
  obtain ⟨b1, b2, b3, b4, b5⟩ := sh2
  refine ⟨b1, b2, b3, b4, b5, b1, b2, b3, b4, b5, ?_⟩
  rw [decide_true]
  exact hk _ (by omega)
end

/-! ### order types, as the law asks -/
theorem types_row {c : Nat} (hc : c ≤ 4) {q : List Int} (h : q ∈ typesP c) : q.length = c ∧ ∀ l ∈ q, 0 ≤ l ∧ l ≤ 10 := rows_small c hc c (Nat.le_refl _) q (List.mem_filter.mp h).1
theorem types_many {c : Nat} (hc : c ≤ 4) : (typesP c).length ≤ 1296 := by
  have h1 : (typesP c).length ≤ (rowsO c c).length := List.length_filter_le ..
  rw [rows_len] at h1
  have h2 : (c + 2) ^ c ≤ 6 ^ c := Nat.pow_le_pow_left (by omega) _
  have h3 : 6 ^ c ≤ 6 ^ 4 := Nat.pow_le_pow_right (by decide) hc
  have h4 : (6 : Nat) ^ 4 = 1296 := by decide
  omega
theorem blocks_same : ∀ c : Nat, c ≤ 4 → ∀ r ∈ typesP c, (blocksL r : Int) = blocksP r
  | 0, _ => by decide +kernel
  | 1, _ => by decide +kernel
  | 2, _ => by decide +kernel
  | 3, _ => by decide +kernel
  | 4, _ => by decide +kernel
  | c + 5, h => by omega
theorem rows_mem (c : Nat) : ∀ (j : Nat) (r : List Int), r.length = j → (∀ l ∈ r, 0 ≤ l ∧ l ≤ (c : Int) + 1) → r ∈ rowsO c j
  | 0, r, h, _ => by
    obtain rfl := List.eq_nil_of_length_eq_zero h
    exact List.mem_singleton.mpr rfl
  | j + 1, r, h, hr => by
    have hne : r ≠ [] := fun z => by rw [z] at h; cases h
    have e := (List.dropLast_concat_getLast hne).symm
    have h1 : r.dropLast ∈ rowsO c j := rows_mem c j _ (by rw [List.length_dropLast, h]; rfl) fun l hl => hr l (List.dropLast_subset r hl)
    obtain ⟨b0, b1⟩ := hr _ (List.getLast_mem hne)
    show r ∈ (rowsO c j).flatMap fun r => (List.range (c + 2)).map fun (l : Nat) => r ++ [(l : Int)]
    refine List.mem_flatMap.mpr ⟨_, h1, List.mem_map.mpr ⟨(r.getLast hne).toNat, List.mem_range.mpr (by omega), ?_⟩⟩
    rw [Int.toNat_of_nonneg b0, ← e]
theorem blocks_mem {r : List Int} (h : blocksP r ≠ 0) : blocksP r ∈ r ∧ blocksP r ≤ (r.length : Int) := by
  unfold blocksP maxZ at *
  cases e : (r.filter fun l => decide (l ≤ (r.length : Int))).max? with
  | none => rw [e] at h; exact absurd rfl h
  | some m =>
    have := List.mem_filter.mp (List.max?_mem e)
    exact ⟨this.1, of_decide_eq_true this.2⟩
theorem typ_has {ns : List Int} {W : Int} {l j : Int} (hl : l ∈ typF ns W) (h1 : l ≤ (ns.length : Int)) (j1 : 1 ≤ j) (j2 : j ≤ l) : j ∈ typF ns W := by
  unfold typF at hl
  obtain ⟨n, hn, e⟩ := List.mem_map.mp hl
  have lI : l ≤ ((innF ns W).idxOf n : Nat) + 1 ∧ n ∈ ns ∧ n ≠ 0 ∧ n ≠ W := by
    unfold lev at e
    split at e
    · omega
    · split at e
      · omega
      · rename_i c1 c2
        exact ⟨by omega, hn, c1, c2⟩
  have il : (innF ns W).idxOf n ≤ (innF ns W).length := List.idxOf_le_length
  -- the inner number at j - 1
  by_cases c : (j - 1).toNat < (innF ns W).length
  · have hm := List.getElem_mem c
    obtain ⟨m1, m2, m3⟩ := innF_mem.mp hm
    unfold typF
    refine List.mem_map.mpr ⟨(innF ns W)[(j - 1).toNat], m1, ?_⟩
    unfold lev
    rw [if_neg (by omega), if_neg (by omega)]
    have ix : (innF ns W).idxOf (innF ns W)[(j - 1).toNat] = (j - 1).toNat := (up_nodup innF_up).idxOf_getElem _ c
    rw [ix]
    omega
  · -- then the number stands nowhere in the middle, and is j itself
    have ej : j = l := by omega
    rw [ej]
    exact hl
theorem typ_type {ns : List Int} {W : Int} : typF ns W ∈ typesP ns.length := by
  refine List.mem_filter.mpr ⟨rows_mem _ _ _ typ_len fun l hl => typ_in l hl, ?_⟩
  unfold hasAll
  rw [List.all_map, List.all_eq_true]
  intro i hi
  have hi := List.mem_range.mp hi
  show decide ((1 + (i : Int)) ∈ typF ns W) = true
  refine decide_eq_true ?_
  obtain ⟨b1, b2⟩ := blocks_mem (r := typF ns W) (by omega)
  rw [typ_len] at b2
  exact typ_has b1 b2 (by omega) (by omega)
theorem bg_rd {q : List Int} (h : ∀ l ∈ q, 0 ≤ l ∧ l ≤ 10) : Bg q.length 1 (Rd q) := by
  have := bg_tup (b := 0) (d := 0) (xs := q.map D.int) fun x hx => by
    obtain ⟨l, hl, rfl⟩ := List.mem_map.mp hx
    exact bg_int (small_int (n := 10) (h l hl).1 (h l hl).2 (by decide))
  rw [List.length_map, Nat.zero_add, Nat.mul_one] at this
  exact this
theorem sh_types {c : Nat} (hc : c ≤ 4) : Sh (.tup ((typesP c).map Rd)) := by
  have := bg_tup (b := 4) (d := 1) (xs := (typesP c).map Rd) fun x hx => by
    obtain ⟨q, hq, rfl⟩ := List.mem_map.mp hx
    obtain ⟨h1, h2⟩ := types_row hc hq
    exact (bg_rd h2).le (by omega) (Nat.le_refl _)
  refine sh_bg this ?_ (by decide)
  have m := types_many hc
  rw [List.length_map]
  omega
theorem sh_tag {d : D} {b n : Nat} {tag : Str} (o : PyData.strOk tag = true) (l : tag.length ≤ 8) (h : Bg b n d) (hb : b ≤ 100) (hn : n ≤ 20) : Sh (.tup [.str tag, d]) := by
  have := bg_tup (b := b + 8) (d := n) (xs := [.str tag, d]) fun x hx => by
    rcases List.mem_cons.mp hx with rfl | hx
    · exact (bg_str o l).le (by omega) (by omega)
    · rw [List.mem_singleton.mp hx]
      exact h.le (by omega) (Nat.le_refl _)
  exact sh_bg this (by show 2 * (b + 8 + 1) ≤ 10000; omega) (by omega)
section
variable {P : Program} {w : World} {K : PySem.W.Frag} {mg : Str → Option Value} {base : Heap}
theorem sc_law_types_right : FnScope ["m", "count", "point", "kind", "due", "level"] ["m"] (defScope s_law_types_right) := ⟨rfl, rfl, rfl, by decide +kernel, rfl, by decide +kernel, by decide +kernel⟩
theorem ok_law_types_right (T : Txt P K mg) (B_law_types_right : LamX.TabB base mg T.c_law_types_right T.P_law_types_right) {k : Nat} : FnG P w K mg base CX0 (k + 130) T.f_law_types_right T.d_law_types_right ["m"] (spSL K (tabsT T) dRight) := by
  refine okGL T.F_law_types_right sc_law_types_right (fun vs H Q E h => spSL_len (by rintro _ _ _ ⟨rfl, hn, hk⟩; rfl) h) (fun A outer s H vs Q E hr gd h => ?_)
  refine ⟨_, (pss_cons (ps_set (i := 1) sc_law_types_right.nd rfl (Or.inl rfl) (pe_call (ok_law_of T) hr (by rfl) T.g_law_of T.F_law_of.kp T.b_law_of .nil pass0 (pa_cons (pv 0) (pa_cons (pe_lst (pa_cons pe_int (pa_cons pe_int (pa_cons pe_int (pa_cons pe_int (pa_cons pe_int (pa_cons (pe_ifExp (pt_cmpR op_eq (pe_call (ok_law_draw T) hr (by rfl) T.g_law_draw T.F_law_draw.kp T.b_law_draw .nil pass0 (pa_cons (pv 0) (pa_cons pe_int pa_nil))) pe_int (by rfl)) pe_int pe_int) pa_nil))))))) pa_nil))))
    (pss_cons (ps_if (pt_cmpR op_ne (pe_callB (reprK K gd hr) (by rfl) T.z_repr (by decide +kernel) (pa_cons (pe_call (ok_order_types T) hr (by rfl) T.g_order_types T.F_order_types.kp T.b_order_types .nil pass0 (pa_cons (pv 1) pa_nil)) pa_nil)) (pe_callB (reprK K gd hr) (by rfl) T.z_repr (by decide +kernel) (pa_cons (pe_callTy (tuple_ofK K) (by rfl) T.z_tuple (by decide +kernel) (pa_cons (pe_call (ok_law_types T) hr (by rfl) T.g_law_types T.F_law_types.kp T.b_law_types .nil pass0 (pa_cons (pv 1) pa_nil)) pa_nil)) pa_nil)) (by rfl)) (pss_one (ps_ret pe_bl)) pss_nil)
    (pss_cons (ps_set (i := 2) sc_law_types_right.nd rfl (Or.inl rfl) (pe_call (ok_law_point T) hr (by rfl) T.g_law_point T.F_law_point.kp T.b_law_point .nil pass0 (pa_cons (pv 0) (pa_cons (pe_call (ok_law_draw T) hr (by rfl) T.g_law_draw T.F_law_draw.kp T.b_law_draw .nil pass0 (pa_cons (pv 0) (pa_cons pe_int pa_nil))) pa_nil))))
    (pss_cons (ps_set (i := 3) sc_law_types_right.nd rfl (Or.inr rfl) (pe_call (ok_law_type_of T) hr (by rfl) T.g_law_type_of T.F_law_type_of.kp T.b_law_type_of .nil pass0 (pa_cons (pv 2) pa_nil)))
    (pss_cons (ps_if (pt_cmpR op_ne (pe_callB (reprK K gd hr) (by rfl) T.z_repr (by decide +kernel) (pa_cons (pe_call (ok_order_type_of T) hr (by rfl) T.g_order_type_of T.F_order_type_of.kp T.b_order_type_of .nil pass0 (pa_cons (pv 2) pa_nil)) pa_nil)) (pe_callB (reprK K gd hr) (by rfl) T.z_repr (by decide +kernel) (pa_cons (pv 3) pa_nil)) (by rfl)) (pss_one (ps_ret pe_bl)) pss_nil)
    (pss_cons (ps_set (i := 4) sc_law_types_right.nd rfl (Or.inl rfl) (pe_ifExp (pt_cmpR op_gt (pe_call (ok_law_blocks T) hr (by rfl) T.g_law_blocks T.F_law_blocks.kp T.b_law_blocks .nil pass0 (pa_cons (pv 3) pa_nil)) pe_int (by rfl)) (pe_tup (pa_cons pe_str (pa_cons (pe_call (ok_law_raised T) hr (by rfl) T.g_law_raised T.F_law_raised.kp T.b_law_raised .nil pass0 (pa_cons (pv 3) pa_nil)) pa_nil))) (pe_tup (pa_cons pe_str (pa_cons (pv 3) pa_nil)))))
    (pss_cons (ps_if (pt_cmpR op_ne (pe_callB (reprK K gd hr) (by rfl) T.z_repr (by decide +kernel) (pa_cons (pe_lam (T := tabsT T) (by rfl) T.g_law_outcome T.F_law_outcome T.b_law_outcome sc_law_outcome rfl (Or.inl rfl) (fun cdv => gives_outcome T rfl rfl _ cdv) B_law_types_right rfl (lamM_law_types_right T) (lamU_law_types_right T) hr (show LamX.LamS (defScope s_law_types_right) _ from LamX.lamS_by (by decide +kernel)) rfl (fun _ _ _ _ _ => rfl) (fun A outer s H E f c hrl => (pe_call (ok_raised_type T) hrl (by rfl) T.g_raised_type T.F_raised_type.kp T.b_raised_type .nil (passes_call (takes_of rfl rfl rfl rfl) fun _ _ _ _ h => h) (pa_cons (pv 3) pa_nil)))) pa_nil)) (pe_callB (reprK K gd hr) (by rfl) T.z_repr (by decide +kernel) (pa_cons (pv 4) pa_nil)) (by rfl)) (pss_one (ps_ret pe_bl)) pss_nil)
    (pss_one (ps_ret (pe_cmpR op_eq (pe_callB (reprK K gd hr) (by rfl) T.z_repr (by decide +kernel) (pa_cons (pe_call (ok_point_of_type T) hr (by rfl) T.g_point_of_type T.F_point_of_type.kp T.b_point_of_type .nil pass0 (pa_cons (pv 3) pa_nil)) pa_nil)) (pe_callB (reprK K gd hr) (by rfl) T.z_repr (by decide +kernel) (pa_cons (pe_callTy (tuple_ofK K) (by rfl) T.z_tuple (by decide +kernel) (pa_cons (pe_lc (own := [("level", 5)]) (g := (gName 5)) rfl sc_law_types_right.nd (pi_tup (pv 3)) (blkOk_by (N := ["m", "count", "point", "kind", "due", "level"]) (sc := defScope s_law_types_right) (by decide +kernel)) (fun _ _ _ _ _ => (pg_name (i := 5) sc_law_types_right.nd rfl (Or.inl rfl))) (fun _ _ _ _ _ => pts_nil) (fun _ _ _ _ _ => (pe_call (ok_law_lowest T) hr (by rfl) T.g_law_lowest T.F_law_lowest.kp T.b_law_lowest .nil pass0 (pa_cons (pv 5) (pa_cons (pe_op op_add (pe_callB (len_seqK K) (by rfl) T.z_len (by decide +kernel) (pa_cons (pv 3) pa_nil)) pe_int) pa_nil))))) pa_nil)) pa_nil)) (by rfl))))))))))), ?_⟩
  try dsimp only [L2.cxOf, L2.Cx.nox]
  refine' enterL h (fun S mo hS => ?sim) ?go
  (case sim => walk_at "sim")
  rintro n0 ds kt ⟨rfl, hn, hk⟩
  refine seq_with (fun e => ∃ (n c : Nat), e = ⟨c, [.d .st, .d (.int (n : Int)), .u, .u, .u, .u]⟩ ∧ c ≤ n0 + 5 ∧ n ≤ 4) (fun k' hk' => ?_) ?_
  · have fin : ∀ (y : D) (c : Nat), (∃ n : Nat, y = .int (n : Int) ∧ n ≤ 4) → c ≤ n0 + 5 → k'.nx ⟨c, [.d .st, .d y, .u, .u, .u, .u]⟩ := by
      rintro y c ⟨n, rfl, h⟩ hc
      exact hk' _ ⟨n, c, rfl, hc, h⟩
    walk_at "d"
    refine ⟨4, rfl, by omega, by decide, by decide, fun r r0 r1 => ?_⟩
    walk_at "d"
    split
    · refine ⟨_, rfl, by omega, (fun z => nomatch z), (show 6 ≤ 1000 by decide), fun y hy => fin _ _ ?_ (by omega)⟩
      simp only [List.mem_cons, List.not_mem_nil, or_false] at hy
      rcases hy with h | h | h | h | h | h <;> subst h
      · exact ⟨0, rfl, by decide⟩
      · exact ⟨1, rfl, by decide⟩
      · exact ⟨2, rfl, by decide⟩
      · exact ⟨3, rfl, by decide⟩
      · exact ⟨3, rfl, by decide⟩
      · exact ⟨4, rfl, by decide⟩
    · refine ⟨_, rfl, by omega, (fun z => nomatch z), (show 6 ≤ 1000 by decide), fun y hy => fin _ _ ?_ (by omega)⟩
      simp only [List.mem_cons, List.not_mem_nil, or_false] at hy
      rcases hy with h | h | h | h | h | h <;> subst h
      · exact ⟨0, rfl, by decide⟩
      · exact ⟨1, rfl, by decide⟩
      · exact ⟨2, rfl, by decide⟩
      · exact ⟨3, rfl, by decide⟩
      · exact ⟨3, rfl, by decide⟩
      · exact ⟨2, rfl, by decide⟩
  rintro e ⟨n, c1, rfl, hc1, h4⟩
  obtain ⟨a1, a2, a3, a4, a5⟩ := sh_types h4
  refine seq_skip (fun kk h => by
    walk_at "d"
    refine ⟨n, rfl, h4, a1, a2, a3, a4, a5, n, rfl, h4, ?_⟩
    walk_at "d"
    refine ⟨a1, a2, a3, a4, a5, ?_⟩
    exact h) ?_
  refine seq_with (fun e => ∃ (ps : List (Int × Int)) (c : Nat), e = ⟨c, [.d .st, .d (.int (n : Int)), .d (.tup (ps.map Pd)), .u, .u, .u]⟩ ∧ c ≤ c1 + 40 ∧ ps.length ≤ 4 ∧ ∀ p ∈ ps, Vl p) (fun k' hk' => ?_) ?_
  · walk_at "d"
    refine ⟨5, rfl, by omega, by decide, by decide, fun r r0 r1 => ?_⟩
    obtain ⟨j, rfl⟩ : ∃ j : Nat, r = (j : Int) := ⟨r.toNat, by omega⟩
    exact ⟨j, rfl, by omega, by omega, fun ps c' b1 b2 b3 => hk' _ ⟨ps, c', rfl, by omega, by omega, b3⟩⟩
  rintro e ⟨ps, c2, rfl, hc2, hl, hv⟩
  have ok := Vl_ok hl hv
  have ty := typ_type (ns := numL ps) (W := (lcmP ps : Nat))
  rw [numL_len] at ty
  have qin : ∀ l ∈ typF (numL ps) (lcmP ps : Nat), 0 ≤ l ∧ l ≤ (ps.length : Int) + 1 := fun l h => by
    have := typ_in l h
    rw [numL_len] at this
    exact this
  have ql : (typF (numL ps) (lcmP ps : Nat)).length = ps.length := by rw [typ_len, numL_len]
  have bs := blocks_same ps.length hl _ ty
  refine seq_one ⟨c2, [.d .st, .d (.int (n : Int)), .d (.tup (ps.map Pd)), .d (Rd (typF (numL ps) (lcmP ps : Nat))), .u, .u]⟩ (fun k' hk' => ?_) ?_
  · walk_at "d"
    exact ⟨ps, rfl, hl, hv, hk'⟩
  generalize hq : typF (numL ps) (lcmP ps : Nat) = q at *
  have sm : small q := ⟨by omega, fun l h => by have := qin l h; omega⟩
  have bgq := bg_rd sm.2
  obtain ⟨b1, b2, b3, b4, b5⟩ := sh_bg bgq (by omega) (by decide)
  refine seq_skip (fun kk h => by
    walk_at "d"
    refine ⟨ps, rfl, by omega, ok, ?_⟩
    rw [hq]
    refine ⟨b1, b2, b3, b4, b5, b1, b2, b3, b4, b5, ?_⟩
    rw [decide_eq_true rfl]
    exact h) ?_
  have bgr : Bg q.length 1 (Rd (raiF q)) := by
    have := bg_rd (q := raiF q) fun l h => by
      unfold raiF at h
      obtain ⟨m, hm, rfl⟩ := List.mem_map.mp h
      have := qin m hm
      split <;> omega
    rw [show (raiF q).length = q.length by unfold raiF; rw [List.length_map]] at this
    exact this
  have rr : raiL q = raiF q := by
    unfold raiL raiF
    rw [bs]
  refine seq_one ⟨c2, [.d .st, .d (.int (n : Int)), .d (.tup (ps.map Pd)), .d (Rd q), .d (if blocksP q = 0 then .tup [.str "range", Rd q] else .tup [.str "told", Rd (raiF q)]), .u]⟩ (fun k' hk' => ?_) ?_
  · walk_at "d"
    refine ⟨q, rfl, sm, ?_⟩
    walk_at "d"
    by_cases c : blocksP q = 0
    · rw [if_pos c] at hk'
      rw [if_neg (by rw [bs, c]; decide)]
      exact hk'
    · rw [if_neg c] at hk'
      have b0 := (blocks_small sm).1
      rw [if_pos (by rw [bs]; omega)]
      refine ⟨q, rfl, sm, ?_⟩
      rw [rr]
      exact hk'
  refine seq_skip (fun kk h => by
    walk_at "d"
    refine ⟨q, rfl, ?_⟩
    by_cases c : blocksP q = 0
    · simp only [c, if_true] at h ⊢
      refine wOutD_no T.e_OutOfRange_WrongMark (wOutD_no T.e_OutOfRange_TooMany (wOutD_no T.e_OutOfRange_UnknownName (wOutD_yes T.e_OutOfRange_OutOfRange ?_)))
      obtain ⟨s1, s2, s3, s4, s5⟩ := sh_tag (tag := "range") (by decide +kernel) (by decide) bgq (by omega) (by decide)
      refine ⟨s1, s2, s3, s4, s5, ?_⟩
      walk_at "d"
      exact ⟨s1, s2, s3, s4, s5, h⟩
    · simp only [c, if_false] at h ⊢
      obtain ⟨s1, s2, s3, s4, s5⟩ := sh_told bgr (by omega) (by decide)
      refine ⟨s1, s2, s3, s4, s5, s1, s2, s3, s4, s5, ?_⟩
      simp only [decide_true]
      exact h) ?_
  have lv : ∀ l ∈ q, 0 ≤ l ∧ l ≤ (q.length : Int) + 1 := fun l h => by
    have := qin l h
    rw [ql]
    exact this
  obtain ⟨s1, s2, s3, s4, s5⟩ : Sh (.tup (q.map fun l => lowD l ((q.length : Int) + 1))) := by
    have := bg_tup (b := 2) (d := 1) (xs := q.map fun l => lowD l ((q.length : Int) + 1)) fun x hx => by
      obtain ⟨l, hl, rfl⟩ := List.mem_map.mp hx
      exact bg_low (n := 10) (lv l hl).1 (lv l hl).2 (by omega) (by omega) (by decide)
    rw [List.length_map] at this
    exact sh_bg this (by omega) (by decide)
  walk_at "d"
  refine ⟨q, rfl, by omega, lv, s1, s2, s3, s4, s5, ?_⟩
  unfold Rd
  walk_at "d"
  refine dlcMM D.int (fun l => lowD l ((q.length : Int) + 1)) (fun l hl K1 hK => ?_) ?_
  · obtain ⟨l0, l1⟩ := lv l hl
    walk_at "d"
    rw [List.length_map]
    exact ⟨l, _, rfl, l0, by omega, wide_of (by omega), hK _ rfl⟩
  · refine ⟨s1, s2, s3, s4, s5, ?_⟩
    rw [decide_eq_true rfl]
    exact hk c2 (by omega)
end

/-! ### what is refused -/
def five : List Str := ["x", "y", "z", "w", "v"]
def andS (s : Say) (l : List Str) : Say := l.foldl (fun s x => .bin .and s (.unk x)) s
def orS (s : Say) : Say := .bin .or s (.not (.bin .plus .yes (.unk "x")))
theorem andS_snoc (s : Say) (l : List Str) (x : Str) : andS s (l ++ [x]) = .bin .and (andS s l) (.unk x) := by
  unfold andS
  rw [List.foldl_append]
  rfl
theorem plus_bin {k : Mk6} (hk : k ≠ .plus) {a b : Say} (h1 : hasPlus a = false) (h2 : hasPlus b = false) : hasPlus (.bin k a b) = false := by
  unfold hasPlus at *
  show (isPlus (.bin k a b) || (a.all ++ b.all).any isPlus) = false
  rw [List.any_append, h1, h2]
  cases k <;> first | exact absurd rfl hk | rfl
theorem andS_plus : ∀ (l : List Str) (s : Say), hasPlus s = false → hasPlus (andS s l) = false
  | [], s, h => h
  | x :: r, s, h => andS_plus r (.bin .and s (.unk x)) (plus_bin (k := .and) (b := .unk x) (fun z => nomatch z) h rfl)
theorem andS_words : ∀ (l : List Str) (s : Say), (andS s l).words = s.words + 2 * l.length
  | [], s => rfl
  | x :: r, s => by
    show (andS (.bin .and s (.unk x)) r).words = _
    rw [andS_words r]
    show s.words + 1 + 1 + 2 * r.length = s.words + 2 * (r.length + 1)
    omega
theorem andS_leaves : ∀ (l : List Str) (s : Say), ∀ x ∈ l, x ∈ (andS s l).leaves
  | y :: r, s, x, h => by
    have keep : ∀ (l : List Str) (s : Say), ∀ x ∈ s.leaves, x ∈ (andS s l).leaves := by
      intro l
      induction l with
      | nil => intro s x h; exact h
      | cons z r ih => intro s x h; exact ih _ x (List.mem_append_left _ h)
    rcases List.mem_cons.mp h with rfl | h
    · exact keep r _ _ (List.mem_append_right _ (List.mem_singleton.mpr rfl))
    · exact andS_leaves r _ x h
theorem orS_plus (s : Say) : hasPlus (orS s) = true := by
  unfold hasPlus orS
  show (isPlus _ || (s.all ++ _).any isPlus) = true
  rw [List.any_append]
  have : ((Say.not (.bin .plus .yes (.unk "x"))).all).any isPlus = true := by decide +kernel
  rw [this]
  simp
theorem andS_many (s : Say) : 4 < ((andS s five).namesIn []).length := by
  have := nodup_len five ((andS s five).namesIn []) (by decide +kernel) fun x h => names_leaves _ x (andS_leaves five s x h)
  have e : five.length = 5 := rfl
  omega
def bendS (p w : Bool) (s : Say) : Say := if p = true then orS (if w = true then andS s five else s) else if w = true then andS s five else s
theorem bend_words (p w : Bool) (s : Say) : (bendS p w s).words ≤ s.words + 15 := by
  have h1 : (andS s five).words = s.words + 10 := andS_words five s
  have h2 : ∀ t : Say, (orS t).words = t.words + 5 := fun t => rfl
  unfold bendS
  split
  · rw [h2]
    split <;> omega
  · split <;> omega
/-- what the law is to be told -/
def lackL (s : Say) (ns : List Str) : List Str := (s.namesIn []).filter fun x => decide (x ∉ ns)
theorem lack_head {s : Say} {ns : List Str} {x : Str} {r : List Str} (h : lackL s ns = x :: r) : (s.namesIn []).find? (fun x => decide (x ∉ ns)) = some x := by
  have := List.head?_filter (p := fun x => decide (x ∉ ns)) (l := s.namesIn [])
  rw [← this]
  show (lackL s ns).head? = some x
  rw [h]
  rfl
theorem flat_names (l : List Str) : (l.map D.str).all flatD = true := by
  rw [List.all_map]
  exact List.all_eq_true.mpr fun x _ => rfl
theorem ifs_bl {i : Nat} {b : Bool} {A B : DS} {x : DX} {k : DEn} {e : Fr} (h : e.g[i]? = some (.d (.bl b))) (q : if b = true then A x k e else B x k e) : dIfS (dB (dVar i)) A B x k e := by
  unfold dIfS dB dVar
  rw [h]
  exact q
theorem names_all : ∀ l : List Str, (∀ x ∈ l, PyData.strOk x = true) → plainAll (l.map D.str) = true ∧ PyData.canLayAll0 (pyAll (l.map D.str)) = true ∧ PyData.depthAll (pyAll (l.map D.str)) ≤ 0
  | [], _ => ⟨rfl, rfl, Nat.le_refl _⟩
  | x :: r, h => by
    obtain ⟨h1, h2, h3⟩ := names_all r fun y m => h y (List.mem_cons_of_mem _ m)
    refine ⟨?_, ?_, ?_⟩
    · rw [List.map_cons, plainAll, h1]; rfl
    · rw [List.map_cons, pyAll, PyData.canLayAll0, h2]
      show (PyData.canLay0 (.str x) && true) = true
      rw [PyData.canLay0, h x List.mem_cons_self]
      rfl
    · rw [List.map_cons, pyAll, PyData.depthAll]
      have : PyData.depth (D.str x).py = 0 := by show PyData.depth (.str x) = 0; simp [PyData.depth]
      omega
theorem names_shaped {l : List Str} (h : ∀ x ∈ l, PyData.strOk x = true) : (D.lst (l.map D.str)).plain = true ∧ SeqAt.shaped (D.lst (l.map D.str)).py = true := by
  obtain ⟨h1, h2, h3⟩ := names_all l h
  refine ⟨h1, ?_⟩
  show (PyData.canLay0 (.list (pyAll (l.map D.str))) && decide (PyData.depth (.list (pyAll (l.map D.str))) ≤ 64)) = true
  rw [PyData.canLay0, h2, PyData.depth, decide_eq_true (by omega)]
  rfl
theorem names_eqv (l : List Str) : (D.lst (l.map D.str)).py.eqv (D.lst []).py = l.isEmpty := by
  cases l with
  | nil => rfl
  | cons x r => rfl
theorem okN_str {x : Str} (h : x ∈ (["x", "y", "z", "w", "q"] : List Str)) : PyData.strOk x = true := by
  simp only [List.mem_cons, List.not_mem_nil, or_false] at h
  rcases h with rfl | rfl | rfl | rfl | rfl <;> decide +kernel
section
variable {P : Program} {w : World} {K : PySem.W.Frag} {mg : Str → Option Value} {base : Heap}
theorem sc_law_refused_right : FnScope ["m", "saying", "names", "plus", "wide", "name", "lacking", "due", "point", "kind"] ["m"] (defScope s_law_refused_right) := ⟨rfl, rfl, rfl, by decide +kernel, rfl, by decide +kernel, by decide +kernel⟩
theorem ok_law_refused_right (T : Txt P K mg) (B_law_refused_right : LamX.TabB base mg T.c_law_refused_right T.P_law_refused_right) {k : Nat} : FnG P w K mg base CX0 (k + 130) T.f_law_refused_right T.d_law_refused_right ["m"] (spSL K (tabsT T) dRight) := by
  refine okGL T.F_law_refused_right sc_law_refused_right (fun vs H Q E h => spSL_len (by rintro _ _ _ ⟨rfl, hn, hk⟩; rfl) h) (fun A outer s H vs Q E hr gd h => ?_)
  refine ⟨_, (pss_cons (ps_asg (pe_call (ok_law_setting T) hr (by rfl) T.g_law_setting T.F_law_setting.kp T.b_law_setting .nil pass0 (pa_cons (pv 0) pa_nil)) (pg_tup rfl (pgs_cons (pg_name (i := 1) sc_law_refused_right.nd rfl (Or.inr rfl)) (pgs_cons (pg_name (i := 2) sc_law_refused_right.nd rfl (Or.inr rfl)) pgs_nil))))
    (pss_cons (ps_par (i := 3) (j := 4) (by rfl) sc_law_refused_right.nd rfl rfl (by decide) rfl rfl (pa_cons (pe_cmpR op_eq (pe_call (ok_law_draw T) hr (by rfl) T.g_law_draw T.F_law_draw.kp T.b_law_draw .nil pass0 (pa_cons (pv 0) (pa_cons pe_int pa_nil))) pe_int (by rfl)) (pa_cons (pe_cmpR op_eq (pe_call (ok_law_draw T) hr (by rfl) T.g_law_draw T.F_law_draw.kp T.b_law_draw .nil pass0 (pa_cons (pv 0) (pa_cons pe_int pa_nil))) pe_int (by rfl)) pa_nil)) (by rfl))
    (pss_cons (ps_if (pt_val (pv 4)) (pss_one (ps_for PassesOwn.never rfl (pi_tup (pe_tup (pa_cons pe_str (pa_cons pe_str (pa_cons pe_str (pa_cons pe_str (pa_cons pe_str pa_nil))))))) (pg_name (i := 5) sc_law_refused_right.nd rfl (Or.inl rfl)) (pss_one (ps_set (i := 1) sc_law_refused_right.nd rfl (Or.inr rfl) (pe_tup (pa_cons pe_str (pa_cons (pv 1) (pa_cons (pe_tup (pa_cons pe_str (pa_cons (pv 5) pa_nil))) pa_nil)))))))) pss_nil)
    (pss_cons (ps_if (pt_val (pv 3)) (pss_one (ps_set (i := 1) sc_law_refused_right.nd rfl (Or.inr rfl) (pe_tup (pa_cons pe_str (pa_cons (pv 1) (pa_cons (pe_tup (pa_cons pe_str (pa_cons (pe_tup (pa_cons pe_str (pa_cons (pe_tup (pa_cons pe_str pa_nil)) (pa_cons (pe_tup (pa_cons pe_str (pa_cons pe_str pa_nil))) pa_nil)))) pa_nil))) pa_nil)))))) pss_nil)
    (pss_cons (ps_setLc (i := 6) (own := [("name", 5)]) (g := (gName 5)) rfl sc_law_refused_right.nd rfl rfl (sw_true rfl rfl rfl (by decide +kernel)) (pi_list (pe_call (ok_law_names_in T) hr (by rfl) T.g_law_names_in T.F_law_names_in.kp T.b_law_names_in .nil pass0 (pa_cons (pv 1) (pa_cons (pe_lst pa_nil) pa_nil)))) (blkOk_by (N := ["m", "saying", "names", "plus", "wide", "name", "lacking", "due", "point", "kind"]) (sc := defScope s_law_refused_right) (by decide +kernel)) (fun _ _ _ _ _ => (pg_name (i := 5) sc_law_refused_right.nd rfl (Or.inl rfl))) (fun _ _ _ _ _ => (pts_one (pt_cmpR (notIn_seqK K) (pv 5) (pv 2) (by rfl)))) (fun _ _ _ _ _ => (pv 5)))
    (pss_cons (ps_set (i := 7) sc_law_refused_right.nd rfl (Or.inl rfl) pe_non)
    (pss_cons (ps_if (PW.pt (pw_or (pt_val (pv 3)) (pw_or1 (pt_val (pv 4))))) (pss_one (ps_set (i := 7) sc_law_refused_right.nd rfl (Or.inl rfl) (pe_ifExp (pt_val (pv 3)) (pe_tup (pa_cons pe_str (pa_cons pe_str pa_nil))) (pe_tup (pa_cons pe_str (pa_cons pe_str pa_nil)))))) (pss_one (ps_if (pt_cmpR (neDK K hr.units) (pv 6) (pe_lst pa_nil) (by rfl)) (pss_one (ps_set (i := 7) sc_law_refused_right.nd rfl (Or.inl rfl) (pe_tup (pa_cons pe_str (pa_cons (pe_ix (ix_listK K) (pv 6) pe_int (fun _ _ => rfl)) pa_nil))))) (pss_one (ps_if (pt_cmpR op_gt (pe_callB (len_seqK K) (by rfl) T.z_len (by decide +kernel) (pa_cons (pv 2) pa_nil)) pe_int (by rfl)) (pss_cons (ps_set (i := 2) sc_law_refused_right.nd rfl (Or.inr rfl) (pe_slice (sl_tupAK K) (pv 2) (po_some pe_int) po_none))
    (pss_cons (ps_setLc (i := 6) (own := [("name", 5)]) (g := (gName 5)) rfl sc_law_refused_right.nd rfl rfl (sw_true rfl rfl rfl (by decide +kernel)) (pi_list (pe_call (ok_law_names_in T) hr (by rfl) T.g_law_names_in T.F_law_names_in.kp T.b_law_names_in .nil pass0 (pa_cons (pv 1) (pa_cons (pe_lst pa_nil) pa_nil)))) (blkOk_by (N := ["m", "saying", "names", "plus", "wide", "name", "lacking", "due", "point", "kind"]) (sc := defScope s_law_refused_right) (by decide +kernel)) (fun _ _ _ _ _ => (pg_name (i := 5) sc_law_refused_right.nd rfl (Or.inl rfl))) (fun _ _ _ _ _ => (pts_one (pt_cmpR (notIn_seqK K) (pv 5) (pv 2) (by rfl)))) (fun _ _ _ _ _ => (pv 5)))
    (pss_one (ps_set (i := 7) sc_law_refused_right.nd rfl (Or.inl rfl) (pe_ifExp (pt_cmpR (neDK K hr.units) (pv 6) (pe_lst pa_nil) (by rfl)) (pe_tup (pa_cons pe_str (pa_cons (pe_ix (ix_listK K) (pv 6) pe_int (fun _ _ => rfl)) pa_nil))) pe_non))))) pss_nil)))))
    (pss_cons (ps_if (pt_cmpR op_isN (pv 7) pe_non (by rfl)) (pss_one (ps_ret pe_bl)) pss_nil)
    (pss_cons (ps_asg (pe_tup (pa_cons (pe_op (op_repK K) (pe_tup (pa_cons (pe_tup (pa_cons pe_int (pa_cons pe_int pa_nil))) pa_nil)) (pe_callB (len_seqK K) (by rfl) T.z_len (by decide +kernel) (pa_cons (pv 2) pa_nil))) (pa_cons (pe_op (op_repK K) (pe_tup (pa_cons pe_int pa_nil)) (pe_callB (len_seqK K) (by rfl) T.z_len (by decide +kernel) (pa_cons (pv 2) pa_nil))) pa_nil))) (pg_tup rfl (pgs_cons (pg_name (i := 8) sc_law_refused_right.nd rfl (Or.inr rfl)) (pgs_cons (pg_name (i := 9) sc_law_refused_right.nd rfl (Or.inr rfl)) pgs_nil))))
    (pss_cons (ps_if (pt_cmpR (neDK K hr.units) (pe_lam (T := tabsT T) (by rfl) T.g_law_outcome T.F_law_outcome T.b_law_outcome sc_law_outcome rfl (Or.inl rfl) (fun cdv => gives_outcome T rfl rfl _ cdv) B_law_refused_right rfl (lamM_law_refused_right T) (lamU_law_refused_right T) hr (show LamX.LamS (defScope s_law_refused_right) _ from LamX.lamS_by (by decide +kernel)) rfl (fun _ _ _ _ _ => rfl) (fun A outer s H E f c hrl => (pe_call (ok_order_value T) hrl (by rfl) T.g_order_value T.F_order_value.kp T.b_order_value .nil (passes_call (takes_of rfl rfl rfl rfl) fun _ _ _ _ h => h) (pa_cons (pv 1) (pa_cons (pv 2) (pa_cons (pv 8) pa_nil)))))) (pv 7) (by rfl)) (pss_one (ps_ret pe_bl)) pss_nil)
    (pss_one (ps_ret (pe_cmpR (eqDK K hr.units) (pe_lam (T := tabsT T) (by rfl) T.g_law_outcome T.F_law_outcome T.b_law_outcome sc_law_outcome rfl (Or.inl rfl) (fun cdv => gives_outcome T rfl rfl _ cdv) B_law_refused_right rfl (lamM_law_refused_right T) (lamU_law_refused_right T) hr (show LamX.LamS (defScope s_law_refused_right) _ from LamX.lamS_by (by decide +kernel)) rfl (fun _ _ _ _ _ => rfl) (fun A outer s H E f c hrl => (pe_call (ok_order_level T) hrl (by rfl) T.g_order_level T.F_order_level.kp T.b_order_level .nil (passes_call (takes_of rfl rfl rfl rfl) fun _ _ _ _ h => h) (pa_cons (pv 1) (pa_cons (pv 2) (pa_cons (pv 9) pa_nil)))))) (pv 7) (by rfl)))))))))))))), ?_⟩
  try dsimp only [L2.cxOf, L2.Cx.nox]
  refine' enterL h (fun S mo hS => ?sim) ?go
  (case sim => walk_at "sim")
  rintro n0 ds kt ⟨rfl, hn, hk⟩
  refine seq_with (fun e => ∃ (s : Say) (ns : List Str) (c : Nat), e = ⟨c, [.d .st, .d (Sd s), .d (.tup (ns.map .str)), .u, .u, .u, .u, .u, .u, .u]⟩ ∧ c ≤ n0 + 300 ∧ hasPlus s = false ∧ s.words ≤ 34 ∧ (∀ x ∈ s.leaves, x ∈ xyzw) ∧ (∀ x ∈ s.leaves, x ∈ ns) ∧ okN ns ∧ ns.Nodup ∧ ns.length ≤ 4) (fun k' hk' => ?_) ?_
  · walk_at "d"
    exact ⟨rfl, by omega, fun s ns c' b1 b2 b3 b4 b5 b6 b7 b8 => hk' _ ⟨s, ns, c', rfl, b1, b2, b3, b4, b5, b6, b7, b8⟩⟩
  rintro e ⟨s, ns, c1, rfl, hc1, hp, hw, hx4, hx, hN, nd, h4⟩
  have n4 : (s.namesIn []).length ≤ 4 := nodup_len _ xyzw (names_nodup s) fun x h => (namesIn_from s [] x h).elim (fun z => absurd z List.not_mem_nil) (hx4 x)
  refine seq_with (fun e => ∃ (p q : Bool), e = ⟨c1 + 2, [.d .st, .d (Sd s), .d (.tup (ns.map .str)), .d (.bl p), .d (.bl q), .u, .u, .u, .u, .u]⟩) (fun k' hk' => ?_) ?_
  · walk_at "d"
    refine ⟨2, rfl, by omega, by decide, by decide, fun r r0 r1 => ?_⟩
    walk_at "d"
    refine ⟨2, rfl, by omega, by decide, by decide, fun r2 q0 q1 => ?_⟩
    walk_at "d"
    exact hk' _ ⟨_, _, rfl⟩
  rintro e ⟨p, q, rfl⟩
  refine seq_with (fun e => ∃ y5 : Slo, e = ⟨c1 + 2, [.d .st, .d (Sd (if q = true then andS s five else s)), .d (.tup (ns.map .str)), .d (.bl p), .d (.bl q), y5, .u, .u, .u, .u]⟩) (fun k' hk' => ?_) ?_
  · refine ifs_bl (b := q) rfl ?_
    cases q with
    | false =>
      rw [if_neg Bool.false_ne_true]
      exact hk' _ ⟨.u, rfl⟩
    | true =>
      rw [if_pos rfl]
      refine for_with D.str (fun l e => ∃ y5 : Slo, e = ⟨c1 + 2, [.d .st, .d (Sd (andS s l)), .d (.tup (ns.map .str)), .d (.bl p), .d (.bl true), y5, .u, .u, .u, .u]⟩) _ (fun K hK => ?_) ⟨.u, rfl⟩ (fun e he => hk' e he) ?_ (l0 := five)
      · walk_at "d"
        exact hK
      · rintro l x r e k2 h0 ⟨y5, rfl⟩ hN2 _ _ _
        walk_at "d"
        refine hN2 _ ⟨.d (.str x), ?_⟩
        rw [andS_snoc]
        rfl
  rintro e ⟨y5, rfl⟩
  refine seq_one ⟨c1 + 2, [.d .st, .d (Sd (bendS p q s)), .d (.tup (ns.map .str)), .d (.bl p), .d (.bl q), y5, .u, .u, .u, .u]⟩ (fun k' hk' => ?_) ?_
  · walk_at "d"
    cases p with
    | false =>
      simp only [Bool.false_eq_true, if_false]
      exact hk'
    | true =>
      simp only [if_true]
      exact hk'
  have bw := bend_words p q s
  have dw := depth_words (bendS p q s)
  have dws := depth_words s
  have nl := namesIn_len (bendS p q s) []
  refine seq_one ⟨c1 + 2, [.d .st, .d (Sd (bendS p q s)), .d (.tup (ns.map .str)), .d (.bl p), .d (.bl q), .u, .d (.lst ((lackL (bendS p q s) ns).map .str)), .u, .u, .u]⟩ (fun k' hk' => ?_) ?_
  · walk_at "d"
    refine ⟨bendS p q s, [], rfl, by omega, by show 0 + (bendS p q s).words ≤ _; omega, ?_⟩
    walk_at "d"
    refine dlcFM D.str D.str (fun x => decide (x ∉ ns)) (fun x hxn K1 K2 hK => ?_) hk'
    walk_at "d"
    rw [inD_str]
    refine ⟨flat_names ns, ?_⟩
    by_cases c : x ∈ ns
    · rw [if_neg (by simp [c])]
      exact (hK _ rfl).2 (by simp [c])
    · rw [if_pos (by simp [c])]
      exact (hK _ rfl).1 (by simp [c])
  refine seq_one ⟨c1 + 2, [.d .st, .d (Sd (bendS p q s)), .d (.tup (ns.map .str)), .d (.bl p), .d (.bl q), .u, .d (.lst ((lackL (bendS p q s) ns).map .str)), .d .non, .u, .u]⟩ (fun k' hk' => ?_) ?_
  · walk_at "d"
    exact hk'
  refine seq_with (fun e => ∃ (ns' : List Str) (due : D) (y5 y6 : Slo), e = ⟨c1 + 2, [.d .st, .d (Sd (bendS p q s)), .d (.tup (ns'.map .str)), .d (.bl p), .d (.bl q), y5, y6, .d due, .u, .u]⟩ ∧ ns'.Nodup ∧ ns'.length ≤ 4 ∧
      (due = .non ∨ ∃ (C0 : Addr) (f0 tag v : Str), due = .tup [.str tag, .str v] ∧ refO T.C_WrongMark T.C_TooMany T.C_UnknownName (bendS p q s) ns' = some (C0, f0, v) ∧
        (∀ (k : D → Fr → Prop) (e : Fr), k (.tup [.str tag, .str v]) e → wOutD K k e (outs T) C0 f0 (.str v)) ∧ PyData.strOk tag = true ∧ PyData.strOk v = true)) (fun k' hk' => ?_) ?_
  · cases p with
    | true =>
      walk_at "d"
      refine hk' _ ⟨ns, _, _, _, rfl, nd, h4, .inr ⟨T.C_WrongMark, "mark", "mark", "plus", rfl, ?_, fun k e h => wOutD_yes T.e_WrongMark_WrongMark h, by decide +kernel, by decide +kernel⟩⟩
      unfold refO
      rw [show hasPlus (bendS true q s) = true from orS_plus _, if_pos rfl]
    | false =>
      cases q with
      | true =>
        walk_at "d"
        refine hk' _ ⟨ns, _, _, _, rfl, nd, h4, .inr ⟨T.C_TooMany, "what", "many", "unknowns", rfl, ?_, fun k e h => wOutD_no T.e_TooMany_WrongMark (wOutD_yes T.e_TooMany_TooMany h), by decide +kernel, by decide +kernel⟩⟩
        unfold refO
        rw [show hasPlus (bendS false true s) = false from andS_plus five s hp, if_neg Bool.false_ne_true, if_pos (show 4 < ((bendS false true s).namesIn []).length from andS_many s)]
      | false =>
        have e0 : lackL (bendS false false s) ns = [] := List.filter_eq_nil_iff.mpr fun x h => by
          have := (namesIn_from s [] x h).elim (fun z => absurd z List.not_mem_nil) (hx x)
          simp [this]
        rw [e0]
        walk_at "d"
        refine ⟨rfl, rfl, by decide +kernel, by decide +kernel, ?_⟩
        rw [show (D.lst []).py.eqv (D.lst []).py = true by decide +kernel, if_neg (by decide)]
        cases ns with
        | nil =>
          rw [if_neg (by decide)]
          exact hk' _ ⟨[], .non, _, _, rfl, nd, h4, .inl rfl⟩
        | cons n r =>
          rw [if_pos (by rw [List.length_map, List.length_cons]; omega), List.map_cons, cut_1]
          refine ⟨s, [], rfl, by omega, by show 0 + s.words ≤ _; omega, ?_⟩
          walk_at "d"
          have rl : r.length ≤ 4 := by
            have : (n :: r).length = r.length + 1 := rfl
            omega
          refine dlcFM D.str D.str (fun x => decide (x ∉ r)) (fun x hxn K1 K2 hK => ?_) ?_
          · walk_at "d"
            rw [inD_str]
            refine ⟨flat_names r, ?_⟩
            by_cases c : x ∈ r
            · rw [if_neg (by simp [c])]
              exact (hK _ rfl).2 (by simp [c])
            · rw [if_pos (by simp [c])]
              exact (hK _ rfl).1 (by simp [c])
          · have lk : ∀ x ∈ lackL s r, PyData.strOk x = true := fun x h => by
              have h1 := (namesIn_from s [] x (List.mem_filter.mp h).1).elim (fun z => absurd z List.not_mem_nil) (hx x)
              exact okN_str (hN x h1)
            obtain ⟨p1, p2⟩ := names_shaped lk
            have ev := names_eqv (lackL s r)
            show (D.lst ((lackL s r).map D.str)).plain = true ∧ _
            refine ⟨p1, rfl, p2, by decide +kernel, ?_⟩
            show if (!(D.lst ((lackL s r).map D.str)).py.eqv (D.lst []).py) = true then _ else _
            rw [ev]
            cases hL : lackL s r with
            | nil =>
              rw [if_neg (by decide)]
              exact hk' _ ⟨r, .non, _, _, rfl, (List.nodup_cons.mp nd).2, rl, .inl rfl⟩
            | cons x l =>
              rw [if_pos (show (!(x :: l).isEmpty) = true from rfl)]
              have el : (s.namesIn []).filter (fun x => decide (x ∉ r)) = x :: l := hL
              rw [el]
              walk_at "d"
              refine hk' _ ⟨r, _, _, _, rfl, (List.nodup_cons.mp nd).2, rl, .inr ⟨T.C_UnknownName, "name", "unknown", x, rfl, ?_, fun k e h => wOutD_no T.e_UnknownName_WrongMark (wOutD_no T.e_UnknownName_TooMany (wOutD_yes T.e_UnknownName_UnknownName h)), by decide +kernel, lk x (by rw [hL]; exact List.mem_cons_self)⟩⟩
              unfold refO
              rw [show hasPlus (bendS false false s) = false from hp, if_neg Bool.false_ne_true, if_neg (show ¬ 4 < ((bendS false false s).namesIn []).length from by show ¬ 4 < (s.namesIn []).length; omega), show (bendS false false s).namesIn [] = s.namesIn [] from rfl, lack_head hL]
              rfl
  rintro e ⟨ns', due, y5', y6, rfl, nd', h4', hdue⟩
  have bp : (bendS p q s).words ≤ 49 := by omega
  refine seq_ends (fun e => e = ⟨c1 + 2, [.d .st, .d (Sd (bendS p q s)), .d (.tup (ns'.map .str)), .d (.bl p), .d (.bl q), y5', y6, .d due, .u, .u]⟩ ∧ due ≠ .non) (fun k' hk' hrt _ _ => ?_) ?_
  · walk_at "d"
    rcases hdue with rfl | ⟨C0, f0, tag, v, rfl, _⟩
    · refine ⟨fun u z => (nomatch z), ?_⟩
      rw [if_pos rfl, hrt]
      exact hk _ (by omega)
    · refine ⟨fun u z => (nomatch z), ?_⟩
      rw [if_neg (show ¬ (false = true) from Bool.false_ne_true)]
      exact hk' _ ⟨rfl, fun z => nomatch z⟩
  rintro e ⟨rfl, hne⟩
  obtain ⟨C0, f0, tag, v, rfl, rf, hW, o1, o2⟩ := hdue.resolve_left hne
  refine seq_one ⟨c1 + 2, [.d .st, .d (Sd (bendS p q s)), .d (.tup (ns'.map .str)), .d (.bl p), .d (.bl q), y5', y6, .d (.tup [.str tag, .str v]), .d (.tup ((List.replicate ns'.length ((1 : Int), (2 : Int))).map Pd)), .d (Rd (List.replicate ns'.length 1))]⟩ (fun k' hk' => ?_) ?_
  · walk_at "d"
    rw [List.length_map]
    refine ⟨List.cons_ne_nil _ _, by omega, by omega, List.cons_ne_nil _ _, by omega, by omega, ?_⟩
    rw [Int.toNat_natCast, List.flatten_replicate_singleton, List.flatten_replicate_singleton]
    unfold Rd at hk'
    rw [List.map_replicate, List.map_replicate] at hk'
    exact hk'
  have sv := shaped_two tag v o1 o2
  have ev := eqv_two tag v
  have vl : ∀ p ∈ List.replicate ns'.length ((1 : Int), (2 : Int)), Vl p := fun p hp => by
    rw [List.eq_of_mem_replicate hp]
    exact ⟨by decide, by decide, by decide, .inl (by decide)⟩
  refine seq_peel _ (fun k' hk' => if_told (ys := [Sd (bendS p q s), .tup (ns'.map .str), .tup ((List.replicate ns'.length ((1 : Int), (2 : Int))).map Pd)]) (C := C0) (f := f0) (tag := tag) (y := .str v) (fun x' kk h => by walk_at "d"; exact h) rfl
    (fun kt kx h => ⟨bendS p q s, ns', _, rfl, by omega, nd', by omega, List.length_replicate, Vl_ok (by rw [List.length_replicate]; exact h4') vl, by rw [rf]; exact h⟩) hW rfl sv ev hk') ?_
  refine ret_told (ys := [Sd (bendS p q s), .tup (ns'.map .str), Rd (List.replicate ns'.length 1)]) (C := C0) (f := f0) (tag := tag) (y := .str v) (fun x' kk h => by walk_at "d"; exact h) rfl
    (fun kt kx h => ⟨bendS p q s, ns', _, rfl, by omega, nd', List.length_replicate, by rw [rf]; exact h⟩) hW rfl sv ev ?_
  exact hk _ (by show c1 + 2 ≤ _; omega)
end

/-! ### the state that a law begins with, and what is drawn from a list -/
def spBegun (K : PySem.W.Frag) : Sp := fun vs H Q _ => ∃ (a : Addr) (ns : List Int) (k : Int), vs = [.ref a, .int k] ∧ SqL K H a (ns.map V.int) ∧ ns.length ≤ 63 ∧ 0 ≤ k ∧ k ≤ 1000 ∧
  ∀ (m : Addr) (H' : Hp), Same H H' → H m = none → MAt H' m 0 → Q (.ref m) H'
section
variable {P : Program} {w : World} {K : PySem.W.Frag} {mg : Str → Option Value} {base : Heap}
theorem sc_law_begun : FnScope ["script", "k", "cells", "great", "begun", "cell"] ["script", "k"] (defScope s_law_begun) := ⟨rfl, rfl, rfl, by decide +kernel, rfl, by decide +kernel, by decide +kernel⟩
theorem ok_law_begun (T : Txt P K mg) {k : Nat} : FnOk P w K mg base CX0 (k + 1) T.f_law_begun T.d_law_begun ["script", "k"] (spBegun K) := by
  refine T.F_law_begun.ok sc_law_begun (fun vs H Q E h => ?_) (fun cdv A outer s H vs Q E hr h => ?_)
  · obtain ⟨a, ns, k, rfl, _⟩ := h
    rfl
  obtain ⟨a, ns, k, rfl, hS, hl, k0, k1, q⟩ := h
  refine ⟨_, (pss_cons (ps_set (i := 2) sc_law_begun.nd rfl (Or.inl rfl) (pe_op op_cat (pe_slice (sl_listK K) (pv 0) (po_some (pv 1)) po_none) (pe_slice (sl_listK K) (pv 0) po_none (po_some (pv 1)))))
    (pss_cons (ps_setLc (i := 3) (own := [("cell", 5)]) (g := (gName 5)) rfl sc_law_begun.nd rfl rfl (sw_true rfl rfl rfl (by decide +kernel)) (pi_list (pv 0)) (blkOk_by (N := ["script", "k", "cells", "great", "begun", "cell"]) (sc := defScope s_law_begun) (by decide +kernel)) (fun _ _ _ _ _ => (pg_name (i := 5) sc_law_begun.nd rfl (Or.inl rfl))) (fun _ _ _ _ _ => (pts_one (pt_cmpR op_ge (pv 5) (pe_op op_pow pe_int pe_int) (by rfl)))) (fun _ _ _ _ _ => (pv 5)))
    (pss_cons (ps_set (i := 4) sc_law_begun.nd rfl (Or.inl rfl) (pe_op op_add pe_int (pe_op op_mul pe_int (pv 1))))
    (pss_cons (ps_for PassesOwn.never rfl (pi_list (pv 2)) (pg_name (i := 5) sc_law_begun.nd rfl (Or.inl rfl)) (pss_one (ps_set (i := 4) sc_law_begun.nd rfl (Or.inl rfl) (pe_op op_mod (pe_callTy call_int1 (by rfl) T.z_int (by decide +kernel) (pa_cons (pe_op op_add (pe_op op_mul (pv 4) pe_int) (pv 5)) pa_nil)) pe_int))))
    (pss_one (ps_ret (pe_disp (pps_cons pe_str (pe_ifExp (pt_cmpR op_lt (pv 1) (pe_callB (len_seqK K) (by rfl) T.z_len (by decide +kernel) (pa_cons (pv 3) pa_nil)) (by rfl)) (pe_ix (ix_listK K) (pv 3) (pv 1) (fun _ _ => rfl)) pe_int) (pps_cons pe_str (pv 4) (pps_cons pe_str (pe_op op_cat (pv 2) (pe_lst (pa_cons (pe_op op_add (pe_op op_mul pe_int (pv 1)) pe_int) pa_nil))) (pps_cons pe_str pe_int pps_nil)))) (by rfl) (by rfl) (fun z => by cases z) (by decide)))))))), ?_⟩
  try dsimp only [L2.cxOf, L2.Cx.nox]
  walk_at "rd"
  refine rd_slL hS fun p1 n1 => ?_
  have s1 := Same.new n1 (.lst (cutV (ns.map V.int) (some k) none))
  walk_at "rd"
  refine rd_slL (s1.seq hS) fun p2 n2 => ?_
  obtain ⟨m1, e1, h1⟩ := cut_ints ns (some k) none
  obtain ⟨m2, e2, h2⟩ := cut_ints ns none (some k)
  have s2 := s1.trans (Same.new n2 (.lst (cutV (ns.map V.int) none (some k))))
  have g1 := (Same.new n2 (.lst (cutV (ns.map V.int) none (some k)))) _ _ (upd_same (H := H) (a := p1) (o := .lst (cutV (ns.map V.int) (some k) none)))
  generalize hH2 : upd (upd H p1 (.lst (cutV (ns.map V.int) (some k) none))) p2 (.lst (cutV (ns.map V.int) none (some k))) = H2 at *
  have g2 : H2 p2 = some (.lst (cutV (ns.map V.int) none (some k))) := by rw [← hH2]; exact upd_same
  rw [e1] at g1
  rw [e2] at g2
  refine rd_cat g1 g2 (by rw [List.length_map, List.length_map]; omega) fun p3 n3 => ?_
  have s3 := s2.trans (Same.new n3 (.lst (m1.map V.int ++ m2.map V.int)))
  have g3 : (upd H2 p3 (.lst (m1.map V.int ++ m2.map V.int))) p3 = _ := upd_same
  generalize hH3 : upd H2 p3 (.lst (m1.map V.int ++ m2.map V.int)) = H3 at *
  rw [← List.map_append] at g3
  have h3 : (m1 ++ m2).length ≤ 126 := by rw [List.length_append]; omega
  generalize m1 ++ m2 = cs at g3 h3
  walk_at "rd"
  refine rd_atL (s3.seq hS) fun p4 n4 => lc_src walk_list (fun i => .int (ns.getD i 0)) ?_ (fun i => decide ((10 : Int) ^ 18 ≤ ns.getD i 0)) (fun i => .int (ns.getD i 0))
    (by rw [List.length_map]; omega) n4 (fun H' z => z.seq (s3.seq hS)) (fun x => rfl) ?_ ?_ ?_
  · rintro i H0 x H' hi ⟨rfl, e⟩
    refine ⟨rfl, ?_⟩
    rw [List.getElem?_map] at e
    cases z : ns[i]? with
    | none => rw [z] at e; cases e
    | some y =>
      rw [z] at e
      rw [List.getD_eq_getElem?_getD, z]
      exact (Option.some.inj e).symm
  · intro i H' R hi z r
    walk_at "rd"
    exact r
  · intro i H' R hi hf z r
    walk_at "rd"
    exact r H' (Same.refl _)
  intro H4 s4 g4
  rw [given_ints] at g4
  have pos : ∀ z ∈ ((List.range (ns.map V.int).length).filter fun i => decide ((10 : Int) ^ 18 ≤ ns.getD i 0)).map (fun i => ns.getD i 0), 0 ≤ z := by
    intro z hz
    obtain ⟨i, hi, rfl⟩ := List.mem_map.mp hz
    have := of_decide_eq_true (List.mem_filter.mp hi).2
    omega
  generalize (((List.range (ns.map V.int).length).filter fun i => decide ((10 : Int) ^ 18 ≤ ns.getD i 0)).map (fun i => ns.getD i 0)) = gs at g4 pos
  have g3' := s4 _ _ g3
  walk_at "rd"
  refine rd_atL (sqL g3') (forL (xs := cs.map V.int) (fun i σ H' => ∃ (b : Int) (x : Option V), σ = [some (.ref a), some (.int k), some (.ref p3), some (.ref p4), some (.int b), x] ∧
    0 ≤ b ∧ b < 2147483647 ∧ H' = H4) ⟨53 + 8 * k, none, rfl, by omega, by omega, rfl⟩ (fun i σ H' _ ⟨_, _, _, _, _, e⟩ => by rw [e]; exact sqL g3') ?_ ?_)
  · rintro i x σ H' hi ⟨b, y, rfl, b0, b1, rfl⟩
    obtain ⟨z, _, rfl⟩ := List.mem_map.mp (List.mem_of_getElem? hi)
    walk_at "rd"
    exact ⟨_, _, rfl, Int.emod_nonneg _ (by decide), Int.emod_lt_of_pos _ (by decide), rfl⟩
  · rintro σ H' ⟨b, y, rfl, b0, b1, rfl⟩
    walk_at "rd"
    intro m nm
    have s5 : Same H' _ := Same.new nm (.dK [])
    have g5 := (Same.new nm (.dK [])) _ _ g4
    have g6 := (Same.new nm (.dK [])) _ _ g3'
    have rest : ∀ l : Int, 0 ≤ l → tPairs [(tC (V.str (Str.ofString "seed")), tVar 4), (tC (V.str (Str.ofString "cells")), tOp rCat (tVar 2)
        (tLst (tCons (tOp (rI0 fun i j => V.int (i + j)) (tOp (rI CMul fun i j => V.int (i * j)) (tC (V.int 41)) (tVar 1)) (tC (V.int 13))) tNil))),
        (tC (V.str (Str.ofString "spot")), tC (V.int 0))] [some (.ref a), some (.int k), some (.ref p3), some (.ref p4), some (.int b), y] (upd H' m (.dK [])) fun ps H2 =>
          H2 m = some (.dK []) ∧ ∃ kvs : List (Key × V), (V.str (Str.ofString "left"), V.int l) :: ps = kvs.map (fun kv => (kV kv.1, kv.2)) ∧ kvs.length ≤ 15 ∧ Q (.ref m) (upd H2 m (.dK (mergeK [] kvs))) := by
      intro l hl
      walk_at "rd"
      refine ⟨by show 1 ≤ sizeLine; decide, fun p5 n5 => ?_⟩
      have s6 := s5.trans (Same.new n5 (.lst [V.int (41 * k + 13)]))
      have g7 := (Same.new n5 (.lst [V.int (41 * k + 13)])) _ _ g6
      have m1 := (Same.new n5 (.lst [V.int (41 * k + 13)])) _ _ (upd_same (H := H') (a := m) (o := .dK []))
      refine rd_cat g7 upd_same (by rw [List.length_map]; show cs.length + 1 ≤ 1000000; omega) fun p6 n6 => ?_
      have s7 := s6.trans (Same.new n6 (.lst (cs.map V.int ++ [V.int (41 * k + 13)])))
      have m2 := (Same.new n6 (.lst (cs.map V.int ++ [V.int (41 * k + 13)]))) _ _ m1
      have np : p6 ≠ m := (ne_of_none m1 n6).symm
      walk_at "rd"
      refine ⟨m2, mk l b p6 0, rfl, (by show 4 ≤ 15; decide), ?_⟩
      rw [merge_mk]
      have old : Same H H' := s3.trans s4
      have nm0 : H m = none := old.free nm
      refine q m _ (Same.put (old.trans s7) nm0 _) nm0 ⟨l, b, 0, p6, cs ++ [41 * k + 13], upd_same, ?_, by simp, ?_, hl, b0, b1, Int.le_refl 0, by omega⟩
      · rw [upd_ne np, upd_same, List.map_append]
        rfl
      · rw [List.length_append]
        show cs.length + 1 ≤ 200
        omega
    walk_at "rd"
    refine rd_len (.inl (sqL g5)) ?_
    walk_at "rd"
    refine rd_two (fun c => ?_) (fun c => ?_)
    · walk_at "rd"
      obtain ⟨v, e, _, hm⟩ := atI_in (xs := gs.map V.int) k0 c
      obtain ⟨z, hz, rfl⟩ := List.mem_map.mp hm
      refine rd_ixL (sqL g5) e ?_
      exact rest z (pos z hz)
    · exact rd_c (rest 0 (Int.le_refl 0))
end

def spLaw (K : PySem.W.Frag) (tabs : List (Addr × Str)) : Sp := fun vs H Q _ => ∃ (a : Addr) (ns : List Int), vs = [.ref a] ∧ SqL K H a (ns.map V.int) ∧ ns.length ≤ 63 ∧ (∀ z ∈ ns, Builtin.Int.intBits z ≤ 1048576) ∧ LamX.Tabs tabs H ∧ ∀ H' : Hp, Q (.bl true) H'
theorem ext_kpN {H H1 H2 : Hp} {m : Addr} (s : LamX.ExtN H H1) (h : H m = none) (k : KpN m H1 H2) : LamX.ExtN H H2 := fun b o e n => k b o (fun z => by rw [z, h] at e; cases e) (s b o e n) n
theorem ext_free {H H1 : Hp} {m : Addr} (s : LamX.ExtN H H1) (t : ∀ p, H m = some p → ∀ ps, p ≠ .tbl ps) (h : H1 m = none) : H m = none := by
  cases z : H m with
  | none => rfl
  | some o =>
    rw [s _ _ z (t o z)] at h
    cases h
section
variable {P : Program} {w : World} {K : PySem.W.Frag} {mg : Str → Option Value} {base : Heap}
theorem call_right {T : List (Addr × Str)} {H : Hp} {Q : VK} {E : XK} {m : Addr} {n : Nat} (hm : MAt H m n) (hn : n ≤ 500000) (t : LamX.Tabs T H) (q : ∀ H', KpN m H H' → MAt H' m (n + 1000) → LamX.Tabs T H' → Q (.bl true) H') : spSL K T dRight [.ref m] H Q E := by
  obtain ⟨l, s, p, c, cs, a1, a2, _⟩ := id hm
  have mc : m ≠ c := fun z => by rw [z, a2] at a1; cases a1
  refine ⟨fun b => if b = c then H c else none, m, n, [.st], fun y c' => y = .bl true ∧ c' ≤ n + 1000, ?_, if_neg mc, ?_, t, hm, ?_, .cons (.st rfl) .nil, ⟨rfl, hn, fun c' h => ⟨rfl, h⟩⟩, fun y n' v H' S' hk nw m' ce dv => ?_⟩
  · intro b o h
    dsimp only at h
    split at h
    · rename_i e; rw [e]; exact h
    · cases h
  · intro b ps h
    dsimp only at h
    split at h
    · rw [a2] at h; cases h
    · cases h
  · intro c' hc
    obtain rfl := hc.eq a1
    exact ⟨_, by show (if c = c then H c else none) = _; rw [if_pos rfl]; exact a2⟩
  · obtain ⟨rfl, hc⟩ := hk
    obtain rfl := dv.bl_inv
    exact q H' nw.hh (m'.mono hc) nw.tabs
theorem call_rightM {H : Hp} {Q : VK} {E : XK} {m : Addr} {n : Nat} (hm : MAt H m n) (hn : n ≤ 500000) (q : ∀ H', Kp m H H' → MAt H' m (n + 1000) → Q (.bl true) H') : spSt K dRight [.ref m] H Q E := by
  obtain ⟨l, s, p, c, cs, a1, a2, _⟩ := id hm
  have mc : m ≠ c := fun z => by rw [z, a2] at a1; cases a1
  refine ⟨fun b => if b = c then H c else none, m, n, [.st], fun y c' => y = .bl true ∧ c' ≤ n + 1000, fun _ _ _ _ => False, ?_, if_neg mc, hm, ?_, .cons (.st rfl) .nil, ⟨rfl, hn, fun c' h => ⟨rfl, h⟩⟩, fun y n' v H' S' hk nw m' ce dv => ?_, fun _ _ _ _ _ _ _ _ z => z.elim⟩
  · intro b o h
    dsimp only at h
    split at h
    · rename_i e; rw [e]; exact h
    · cases h
  · intro c' hc
    obtain rfl := hc.eq a1
    exact ⟨_, by show (if c = c then H c else none) = _; rw [if_pos rfl]; exact a2⟩
  · obtain ⟨rfl, hc⟩ := hk
    obtain rfl := dv.bl_inv
    exact q H' nw.hh (m'.mono hc)
end

section
variable {P : Program} {w : World} {K : PySem.W.Frag} {mg : Str → Option Value} {base : Heap}
theorem sc_law : FnScope ["script", "k", "m"] ["script"] (defScope s_law) := ⟨rfl, rfl, rfl, by decide +kernel, rfl, by decide +kernel, by decide +kernel⟩
theorem ok_law (T : Txt P K mg) (B_law_value_right : LamX.TabB base mg T.c_law_value_right T.P_law_value_right) (B_law_refused_right : LamX.TabB base mg T.c_law_refused_right T.P_law_refused_right) (B_law_types_right : LamX.TabB base mg T.c_law_types_right T.P_law_types_right) {k : Nat} {f : Addr} {fd : FuncData} (F : Fun K "law" "law" s_law f fd) : FnG P w K mg base CX0 (k + 132) f fd ["script"] (spLaw K (tabsT T)) := by
  refine okG F sc_law (fun vs H Q E h => ?_) (fun cdv A outer s H vs Q E hr gd h => ?_)
  · obtain ⟨a, ns, rfl, _⟩ := h
    rfl
  obtain ⟨a, ns, rfl, ha, hl, hb, ht, q⟩ := h
  refine ⟨_, (pss_cons (ps_for PassesOwn.never rfl (pi_range1 rfl T.z_range (pa_cons (pe_op op_add pe_int (pe_callB (call_min2 rfl) (by rfl) T.z_min (by decide +kernel) (pa_cons (pe_callB (len_seqK K) (by rfl) T.z_len (by decide +kernel) (pa_cons (pv 0) pa_nil)) (pa_cons pe_int pa_nil)))) pa_nil)) (pg_name (i := 1) sc_law.nd rfl (Or.inl rfl)) (pss_cons (ps_set (i := 2) sc_law.nd rfl (Or.inl rfl) (pe_call (ok_law_begun T) hr (by rfl) T.g_law_begun T.F_law_begun.kp T.b_law_begun .nil pass0 (pa_cons (pv 0) (pa_cons (pv 1) pa_nil))))
    (pss_one (ps_if (PW.pt (pw_or (pt_not (pt_val (pe_callG (ok_law_value_right T B_law_value_right) hr gd (by rfl) T.g_law_value_right T.F_law_value_right.kp T.b_law_value_right .nil pass0 (pa_cons (pv 2) pa_nil)))) (pw_or (pt_not (pt_val (pe_callG (ok_law_value_right T B_law_value_right) hr gd (by rfl) T.g_law_value_right T.F_law_value_right.kp T.b_law_value_right .nil pass0 (pa_cons (pv 2) pa_nil)))) (pw_or (pt_not (pt_val (pe_callG (ok_law_types_right T B_law_types_right) hr gd (by rfl) T.g_law_types_right T.F_law_types_right.kp T.b_law_types_right .nil pass0 (pa_cons (pv 2) pa_nil)))) (pw_or1 (pt_not (pt_val (pe_callG (ok_law_refused_right T B_law_refused_right) hr gd (by rfl) T.g_law_refused_right T.F_law_refused_right.kp T.b_law_refused_right .nil pass0 (pa_cons (pv 2) pa_nil))))))))) (pss_one (ps_ret pe_bl)) pss_nil))))
    (pss_one (ps_ret pe_bl))), ?_⟩
  try dsimp only [L2.cxOf, L2.Cx.nox]
  have keepL : ∀ H', LamX.ExtN H H' → SqL K H' a (ns.map V.int) := fun H' s => by
    rcases ha with (ha | ⟨o, ha⟩) | ha
    · exact .inl (.inl (s _ _ ha fun ps z => nomatch z))
    · exact .inl (.inr ⟨o, s _ _ ha fun ps z => nomatch z⟩)
    · exact .inr ha
  walk_at "rd"
  refine rd_len (.inl ha) ?_
  walk_at "rd"
  rw [List.length_map]
  obtain ⟨n, hn, hn2⟩ : ∃ n : Nat, 1 + (if (1 : Int) < (ns.length : Int) then 1 else (ns.length : Int)) = (n : Int) ∧ n ≤ 2 := by
    by_cases c : (1 : Int) < (ns.length : Int)
    · exact ⟨2, by rw [if_pos c]; rfl, Nat.le_refl _⟩
    · exact ⟨1 + ns.length, by rw [if_neg c]; omega, by omega⟩
  rw [hn]
  refine rd_atR (by omega) (by omega) (forR (n := (n : Int).toNat) (lo := 0) (fun i σ H' => ∃ y1 y2 : Option V, σ = [some (.ref a), y1, y2] ∧ LamX.ExtN H H' ∧ LamX.Tabs (tabsT T) H') ⟨_, _, rfl, LamX.ExtN.refl _, ht⟩ ?_ ?_)
  · rintro i σ H1 hi ⟨y1, y2, rfl, x1, t1⟩
    walk_at "rd"
    refine ⟨a, ns, _, rfl, keepL _ x1, hl, by omega, by omega, fun m H2 s2 nm m2 => ?_⟩
    have x2 : LamX.ExtN H H2 := x1.trans (ExtN.same s2)
    have t2 := t1.ext s2
    obtain ⟨kvs, md2⟩ := m2.dict
    -- what stands at m is new: H knows nothing of it but, at most, a table
    have low : ∀ H' : Hp, KpN m H2 H' → LamX.ExtN H H' := fun H' k b o e no => by
      by_cases c : b = m
      · subst c
        have e1 := x1 _ _ e no
        rw [nm] at e1
        cases e1
      · exact k b o c (x2 b o e no) no
    walk_at "rd"
    refine call_right m2 (by omega) t2 fun H3 k3 m3 t3 => ?_
    walk_at "rd"
    refine iteF ?_
    walk_at "rd"
    refine call_right m3 (by omega) t3 fun H4 k4 m4 t4 => ?_
    walk_at "rd"
    refine iteF ?_
    walk_at "rd"
    refine call_right m4 (by omega) t4 fun H5 k5 m5 t5 => ?_
    walk_at "rd"
    refine iteF ?_
    walk_at "rd"
    refine call_right m5 (by omega) t5 fun H6 k6 m6 t6 => ?_
    walk_at "rd"
    refine iteF ?_
    walk_at "rd"
    exact ⟨_, _, rfl, low H6 (((k3.trans k4).trans k5).trans k6), t6⟩
  · rintro σ H1 ⟨y1, y2, rfl, x1, t1⟩
    walk_at "rd"
    exact q H1
end

theorem exm_of {K : PySem.W.Frag} {cls : Value} {D : Addr} {b : Bool} (hc : (PySem.W.clsIn K D).isSome = true) (ht : PySem.W.typeIn K (.ref D) = some (.type "type")) (hb : PySem.W.subIn K (.ref D) (.type "BaseException") = some true)
    (e : PySem.W.subIn K cls (.ref D) = some b) : PySem.W.exmOne K cls (.ref D) = some b := by
  unfold PySem.W.exmOne
  rw [hb, if_pos (by decide)]
  unfold PySem.W.kitCls
  dsimp only
  rw [hc, ht, if_pos (by decide)]
  exact e
theorem clsIn_exc {K : PySem.W.Frag} {nm q : Str} {C N : Addr} {bs bm : List Value} {hdct : Bool} {sn : List Str} {sub : List Value} {ab : Bool} {col : Option Bool} {dd : Option Addr} {k0 k1 k2 k3 k5 : Option Value} {newId : String}
    (h : K.lookup C = some (excClassObj nm q C N bs bm hdct sn sub ab col dd k0 k1 k2 k3 k5 newId)) : (PySem.W.clsIn K C).isSome = true := by
  unfold PySem.W.clsIn
  rw [h]
  rfl

theorem all_mk {l : PySem.W.OpenLaw} {qv : Program} {w : World} {K : PySem.W.Frag} {h : Heap} {mg : Str → Option Value} {fa f1 f2 f3 f4 f5 f6 f7 f8 f9 f10 f11 f12 f13 f14 f15 f16 f17 f18 f19 f20 f21 f22 f23 f24 f25 f26 f27 f28 f29 f30 f31 f32 f33 f34 f35 f36 f37 f38 f39 f40 f41 : Addr} (X : K.In h) (G : h.Ns mainGlobals mg) (hfa : mg "law" = some (.ref fa))
    {od1 an1 od2 an2 od3 an3 od4 an4 od5 an5 od6 an6 od7 an7 od8 an8 od9 an9 od10 an10 od11 an11 od12 an12 od13 an13 od14 an14 od15 an15 od16 an16 od17 an17 od18 an18 od19 an19 od20 an20 od21 an21 od22 an22 od23 an23 od24 an24 od25 an25 od26 an26 od27 an27 od28 an28 od29 an29 od30 an30 od31 an31 od32 an32 od33 an33 od34 an34 od35 an35 od36 an36 od37 an37 od38 an38 od39 an39 od40 an40 od41 an41 : Option Addr} {sl1 sl2 sl3 sl4 sl5 sl6 sl7 sl8 sl9 sl10 sl11 sl12 sl13 sl14 sl15 sl16 sl17 sl18 sl19 sl20 sl21 sl22 sl23 sl24 sl25 sl26 sl27 sl28 sl29 sl30 sl31 sl32 sl33 sl34 sl35 sl36 sl37 sl38 sl39 sl40 sl41 : Array (Option Value)}
    {oc1 kV1 dc1 pm1 cd1 ct1 oc2 kV2 dc2 pm2 cd2 ct2 oc3 kV3 dc3 pm3 cd3 ct3 oc4 kV4 dc4 pm4 cd4 ct4 oc5 kV5 dc5 pm5 cd5 ct5 oc6 kV6 dc6 pm6 cd6 ct6 oc7 kV7 dc7 pm7 cd7 ct7 oc8 kV8 dc8 pm8 cd8 ct8 oc9 kV9 dc9 pm9 cd9 ct9 oc10 kV10 dc10 pm10 cd10 ct10 oc11 kV11 dc11 pm11 cd11 ct11 oc12 kV12 dc12 pm12 cd12 ct12 oc13 kV13 dc13 pm13 cd13 ct13 oc14 kV14 dc14 pm14 cd14 ct14 oc15 kV15 dc15 pm15 cd15 ct15 oc16 kV16 dc16 pm16 cd16 ct16 oc17 kV17 dc17 pm17 cd17 ct17 oc18 kV18 dc18 pm18 cd18 ct18 oc19 kV19 dc19 pm19 cd19 ct19 oc20 kV20 dc20 pm20 cd20 ct20 oc21 kV21 dc21 pm21 cd21 ct21 oc22 kV22 dc22 pm22 cd22 ct22 oc23 kV23 dc23 pm23 cd23 ct23 oc24 kV24 dc24 pm24 cd24 ct24 oc25 kV25 dc25 pm25 cd25 ct25 oc26 kV26 dc26 pm26 cd26 ct26 oc27 kV27 dc27 pm27 cd27 ct27 oc28 kV28 dc28 pm28 cd28 ct28 oc29 kV29 dc29 pm29 cd29 ct29 oc30 kV30 dc30 pm30 cd30 ct30 oc31 kV31 dc31 pm31 cd31 ct31 oc32 kV32 dc32 pm32 cd32 ct32 oc33 kV33 dc33 pm33 cd33 ct33 oc34 kV34 dc34 pm34 cd34 ct34 oc35 kV35 dc35 pm35 cd35 ct35 oc36 kV36 dc36 pm36 cd36 ct36 oc37 kV37 dc37 pm37 cd37 ct37 oc38 kV38 dc38 pm38 ct38 oc39 kV39 dc39 pm39 ct39 oc40 kV40 dc40 pm40 ct40 oc41 kV41 dc41 pm41 cd41 ct41 : Value}
    (a1 : PySem.W.nsIn K mainGlobals "parts_of" = some (some (.ref f1)))
    (l1 : K.lookup f1 = some ⟨oc1, od1, .func (PySem.W.fnOf "parts_of" "parts_of" (defArgs s_parts_of) (defBody s_parts_of) (defScope s_parts_of) .none kV1 dc1 pm1 an1 cd1 ct1), sl1⟩)
    (c1 : PySem.W.codeIn K cd1 "parts_of" = true) (k1 : PySem.W.keepIn K (.ref f1) = true)
    (a2 : PySem.W.nsIn K mainGlobals "all_words" = some (some (.ref f2)))
    (l2 : K.lookup f2 = some ⟨oc2, od2, .func (PySem.W.fnOf "all_words" "all_words" (defArgs s_all_words) (defBody s_all_words) (defScope s_all_words) .none kV2 dc2 pm2 an2 cd2 ct2), sl2⟩)
    (c2 : PySem.W.codeIn K cd2 "all_words" = true) (k2 : PySem.W.keepIn K (.ref f2) = true)
    (a3 : PySem.W.nsIn K mainGlobals "unknowns_of" = some (some (.ref f3)))
    (l3 : K.lookup f3 = some ⟨oc3, od3, .func (PySem.W.fnOf "unknowns_of" "unknowns_of" (defArgs s_unknowns_of) (defBody s_unknowns_of) (defScope s_unknowns_of) .none kV3 dc3 pm3 an3 cd3 ct3), sl3⟩)
    (c3 : PySem.W.codeIn K cd3 "unknowns_of" = true) (k3 : PySem.W.keepIn K (.ref f3) = true)
    (a4 : PySem.W.nsIn K mainGlobals "check_meant" = some (some (.ref f4)))
    (l4 : K.lookup f4 = some ⟨oc4, od4, .func (PySem.W.fnOf "check_meant" "check_meant" (defArgs s_check_meant) (defBody s_check_meant) (defScope s_check_meant) .none kV4 dc4 pm4 an4 cd4 ct4), sl4⟩)
    (c4 : PySem.W.codeIn K cd4 "check_meant" = true) (k4 : PySem.W.keepIn K (.ref f4) = true)
    (a5 : PySem.W.nsIn K mainGlobals "check_order" = some (some (.ref f5)))
    (l5 : K.lookup f5 = some ⟨oc5, od5, .func (PySem.W.fnOf "check_order" "check_order" (defArgs s_check_order) (defBody s_check_order) (defScope s_check_order) .none kV5 dc5 pm5 an5 cd5 ct5), sl5⟩)
    (c5 : PySem.W.codeIn K cd5 "check_order" = true) (k5 : PySem.W.keepIn K (.ref f5) = true)
    (a6 : PySem.W.nsIn K mainGlobals "order_numbers" = some (some (.ref f6)))
    (l6 : K.lookup f6 = some ⟨oc6, od6, .func (PySem.W.fnOf "order_numbers" "order_numbers" (defArgs s_order_numbers) (defBody s_order_numbers) (defScope s_order_numbers) .none kV6 dc6 pm6 an6 cd6 ct6), sl6⟩)
    (c6 : PySem.W.codeIn K cd6 "order_numbers" = true) (k6 : PySem.W.keepIn K (.ref f6) = true)
    (a7 : PySem.W.nsIn K mainGlobals "given_numbers" = some (some (.ref f7)))
    (l7 : K.lookup f7 = some ⟨oc7, od7, .func (PySem.W.fnOf "given_numbers" "given_numbers" (defArgs s_given_numbers) (defBody s_given_numbers) (defScope s_given_numbers) .none kV7 dc7 pm7 an7 cd7 ct7), sl7⟩)
    (c7 : PySem.W.codeIn K cd7 "given_numbers" = true) (k7 : PySem.W.keepIn K (.ref f7) = true)
    (a8 : PySem.W.nsIn K mainGlobals "levels_at" = some (some (.ref f8)))
    (l8 : K.lookup f8 = some ⟨oc8, od8, .func (PySem.W.fnOf "levels_at" "levels_at" (defArgs s_levels_at) (defBody s_levels_at) (defScope s_levels_at) .none kV8 dc8 pm8 an8 cd8 ct8), sl8⟩)
    (c8 : PySem.W.codeIn K cd8 "levels_at" = true) (k8 : PySem.W.keepIn K (.ref f8) = true)
    (a9 : PySem.W.nsIn K mainGlobals "lowest_terms" = some (some (.ref f9)))
    (l9 : K.lookup f9 = some ⟨oc9, od9, .func (PySem.W.fnOf "lowest_terms" "lowest_terms" (defArgs s_lowest_terms) (defBody s_lowest_terms) (defScope s_lowest_terms) .none kV9 dc9 pm9 an9 cd9 ct9), sl9⟩)
    (c9 : PySem.W.codeIn K cd9 "lowest_terms" = true) (k9 : PySem.W.keepIn K (.ref f9) = true)
    (a10 : PySem.W.nsIn K mainGlobals "fraction" = some (some (.ref f10)))
    (l10 : K.lookup f10 = some ⟨oc10, od10, .func (PySem.W.fnOf "fraction" "fraction" (defArgs s_fraction) (defBody s_fraction) (defScope s_fraction) .none kV10 dc10 pm10 an10 cd10 ct10), sl10⟩)
    (c10 : PySem.W.codeIn K cd10 "fraction" = true) (k10 : PySem.W.keepIn K (.ref f10) = true)
    (a11 : PySem.W.nsIn K mainGlobals "denominator_of" = some (some (.ref f11)))
    (l11 : K.lookup f11 = some ⟨oc11, od11, .func (PySem.W.fnOf "denominator_of" "denominator_of" (defArgs s_denominator_of) (defBody s_denominator_of) (defScope s_denominator_of) .none kV11 dc11 pm11 an11 cd11 ct11), sl11⟩)
    (c11 : PySem.W.codeIn K cd11 "denominator_of" = true) (k11 : PySem.W.keepIn K (.ref f11) = true)
    (a12 : PySem.W.nsIn K mainGlobals "numbers_for" = some (some (.ref f12)))
    (l12 : K.lookup f12 = some ⟨oc12, od12, .func (PySem.W.fnOf "numbers_for" "numbers_for" (defArgs s_numbers_for) (defBody s_numbers_for) (defScope s_numbers_for) .none kV12 dc12 pm12 an12 cd12 ct12), sl12⟩)
    (c12 : PySem.W.codeIn K cd12 "numbers_for" = true) (k12 : PySem.W.keepIn K (.ref f12) = true)
    (a13 : PySem.W.nsIn K mainGlobals "check_names" = some (some (.ref f13)))
    (l13 : K.lookup f13 = some ⟨oc13, od13, .func (PySem.W.fnOf "check_names" "check_names" (defArgs s_check_names) (defBody s_check_names) (defScope s_check_names) .none kV13 dc13 pm13 an13 cd13 ct13), sl13⟩)
    (c13 : PySem.W.codeIn K cd13 "check_names" = true) (k13 : PySem.W.keepIn K (.ref f13) = true)
    (a14 : PySem.W.nsIn K mainGlobals "order_value" = some (some (.ref f14)))
    (l14 : K.lookup f14 = some ⟨oc14, od14, .func (PySem.W.fnOf "order_value" "order_value" (defArgs s_order_value) (defBody s_order_value) (defScope s_order_value) .none kV14 dc14 pm14 an14 cd14 ct14), sl14⟩)
    (c14 : PySem.W.codeIn K cd14 "order_value" = true) (k14 : PySem.W.keepIn K (.ref f14) = true)
    (a15 : PySem.W.nsIn K mainGlobals "order_types" = some (some (.ref f15)))
    (l15 : K.lookup f15 = some ⟨oc15, od15, .func (PySem.W.fnOf "order_types" "order_types" (defArgs s_order_types) (defBody s_order_types) (defScope s_order_types) .none kV15 dc15 pm15 an15 cd15 ct15), sl15⟩)
    (c15 : PySem.W.codeIn K cd15 "order_types" = true) (k15 : PySem.W.keepIn K (.ref f15) = true)
    (a16 : PySem.W.nsIn K mainGlobals "has_all_levels" = some (some (.ref f16)))
    (l16 : K.lookup f16 = some ⟨oc16, od16, .func (PySem.W.fnOf "has_all_levels" "has_all_levels" (defArgs s_has_all_levels) (defBody s_has_all_levels) (defScope s_has_all_levels) .none kV16 dc16 pm16 an16 cd16 ct16), sl16⟩)
    (c16 : PySem.W.codeIn K cd16 "has_all_levels" = true) (k16 : PySem.W.keepIn K (.ref f16) = true)
    (a17 : PySem.W.nsIn K mainGlobals "blocks_of" = some (some (.ref f17)))
    (l17 : K.lookup f17 = some ⟨oc17, od17, .func (PySem.W.fnOf "blocks_of" "blocks_of" (defArgs s_blocks_of) (defBody s_blocks_of) (defScope s_blocks_of) .none kV17 dc17 pm17 an17 cd17 ct17), sl17⟩)
    (c17 : PySem.W.codeIn K cd17 "blocks_of" = true) (k17 : PySem.W.keepIn K (.ref f17) = true)
    (a18 : PySem.W.nsIn K mainGlobals "order_type_of" = some (some (.ref f18)))
    (l18 : K.lookup f18 = some ⟨oc18, od18, .func (PySem.W.fnOf "order_type_of" "order_type_of" (defArgs s_order_type_of) (defBody s_order_type_of) (defScope s_order_type_of) .none kV18 dc18 pm18 an18 cd18 ct18), sl18⟩)
    (c18 : PySem.W.codeIn K cd18 "order_type_of" = true) (k18 : PySem.W.keepIn K (.ref f18) = true)
    (a19 : PySem.W.nsIn K mainGlobals "raised_type" = some (some (.ref f19)))
    (l19 : K.lookup f19 = some ⟨oc19, od19, .func (PySem.W.fnOf "raised_type" "raised_type" (defArgs s_raised_type) (defBody s_raised_type) (defScope s_raised_type) .none kV19 dc19 pm19 an19 cd19 ct19), sl19⟩)
    (c19 : PySem.W.codeIn K cd19 "raised_type" = true) (k19 : PySem.W.keepIn K (.ref f19) = true)
    (a20 : PySem.W.nsIn K mainGlobals "point_of_type" = some (some (.ref f20)))
    (l20 : K.lookup f20 = some ⟨oc20, od20, .func (PySem.W.fnOf "point_of_type" "point_of_type" (defArgs s_point_of_type) (defBody s_point_of_type) (defScope s_point_of_type) .none kV20 dc20 pm20 an20 cd20 ct20), sl20⟩)
    (c20 : PySem.W.codeIn K cd20 "point_of_type" = true) (k20 : PySem.W.keepIn K (.ref f20) = true)
    (a21 : PySem.W.nsIn K mainGlobals "order_level" = some (some (.ref f21)))
    (l21 : K.lookup f21 = some ⟨oc21, od21, .func (PySem.W.fnOf "order_level" "order_level" (defArgs s_order_level) (defBody s_order_level) (defScope s_order_level) .none kV21 dc21 pm21 an21 cd21 ct21), sl21⟩)
    (c21 : PySem.W.codeIn K cd21 "order_level" = true) (k21 : PySem.W.keepIn K (.ref f21) = true)
    (a22 : PySem.W.nsIn K mainGlobals "_law_begun" = some (some (.ref f22)))
    (l22 : K.lookup f22 = some ⟨oc22, od22, .func (PySem.W.fnOf "_law_begun" "_law_begun" (defArgs s_law_begun) (defBody s_law_begun) (defScope s_law_begun) .none kV22 dc22 pm22 an22 cd22 ct22), sl22⟩)
    (c22 : PySem.W.codeIn K cd22 "_law_begun" = true) (k22 : PySem.W.keepIn K (.ref f22) = true)
    (a23 : PySem.W.nsIn K mainGlobals "_law_draw" = some (some (.ref f23)))
    (l23 : K.lookup f23 = some ⟨oc23, od23, .func (PySem.W.fnOf "_law_draw" "_law_draw" (defArgs s_law_draw) (defBody s_law_draw) (defScope s_law_draw) .none kV23 dc23 pm23 an23 cd23 ct23), sl23⟩)
    (c23 : PySem.W.codeIn K cd23 "_law_draw" = true) (k23 : PySem.W.keepIn K (.ref f23) = true)
    (a24 : PySem.W.nsIn K mainGlobals "_law_of" = some (some (.ref f24)))
    (l24 : K.lookup f24 = some ⟨oc24, od24, .func (PySem.W.fnOf "_law_of" "_law_of" (defArgs s_law_of) (defBody s_law_of) (defScope s_law_of) .none kV24 dc24 pm24 an24 cd24 ct24), sl24⟩)
    (c24 : PySem.W.codeIn K cd24 "_law_of" = true) (k24 : PySem.W.keepIn K (.ref f24) = true)
    (a25 : PySem.W.nsIn K mainGlobals "_law_saying" = some (some (.ref f25)))
    (l25 : K.lookup f25 = some ⟨oc25, od25, .func (PySem.W.fnOf "_law_saying" "_law_saying" (defArgs s_law_saying) (defBody s_law_saying) (defScope s_law_saying) .none kV25 dc25 pm25 an25 cd25 ct25), sl25⟩)
    (c25 : PySem.W.codeIn K cd25 "_law_saying" = true) (k25 : PySem.W.keepIn K (.ref f25) = true)
    (a26 : PySem.W.nsIn K mainGlobals "_law_names_in" = some (some (.ref f26)))
    (l26 : K.lookup f26 = some ⟨oc26, od26, .func (PySem.W.fnOf "_law_names_in" "_law_names_in" (defArgs s_law_names_in) (defBody s_law_names_in) (defScope s_law_names_in) .none kV26 dc26 pm26 an26 cd26 ct26), sl26⟩)
    (c26 : PySem.W.codeIn K cd26 "_law_names_in" = true) (k26 : PySem.W.keepIn K (.ref f26) = true)
    (a27 : PySem.W.nsIn K mainGlobals "_law_lowest" = some (some (.ref f27)))
    (l27 : K.lookup f27 = some ⟨oc27, od27, .func (PySem.W.fnOf "_law_lowest" "_law_lowest" (defArgs s_law_lowest) (defBody s_law_lowest) (defScope s_law_lowest) .none kV27 dc27 pm27 an27 cd27 ct27), sl27⟩)
    (c27 : PySem.W.codeIn K cd27 "_law_lowest" = true) (k27 : PySem.W.keepIn K (.ref f27) = true)
    (a28 : PySem.W.nsIn K mainGlobals "_law_turned" = some (some (.ref f28)))
    (l28 : K.lookup f28 = some ⟨oc28, od28, .func (PySem.W.fnOf "_law_turned" "_law_turned" (defArgs s_law_turned) (defBody s_law_turned) (defScope s_law_turned) .none kV28 dc28 pm28 an28 cd28 ct28), sl28⟩)
    (c28 : PySem.W.codeIn K cd28 "_law_turned" = true) (k28 : PySem.W.keepIn K (.ref f28) = true)
    (a29 : PySem.W.nsIn K mainGlobals "_law_ranked" = some (some (.ref f29)))
    (l29 : K.lookup f29 = some ⟨oc29, od29, .func (PySem.W.fnOf "_law_ranked" "_law_ranked" (defArgs s_law_ranked) (defBody s_law_ranked) (defScope s_law_ranked) .none kV29 dc29 pm29 an29 cd29 ct29), sl29⟩)
    (c29 : PySem.W.codeIn K cd29 "_law_ranked" = true) (k29 : PySem.W.keepIn K (.ref f29) = true)
    (a30 : PySem.W.nsIn K mainGlobals "_law_blocks" = some (some (.ref f30)))
    (l30 : K.lookup f30 = some ⟨oc30, od30, .func (PySem.W.fnOf "_law_blocks" "_law_blocks" (defArgs s_law_blocks) (defBody s_law_blocks) (defScope s_law_blocks) .none kV30 dc30 pm30 an30 cd30 ct30), sl30⟩)
    (c30 : PySem.W.codeIn K cd30 "_law_blocks" = true) (k30 : PySem.W.keepIn K (.ref f30) = true)
    (a31 : PySem.W.nsIn K mainGlobals "_law_types" = some (some (.ref f31)))
    (l31 : K.lookup f31 = some ⟨oc31, od31, .func (PySem.W.fnOf "_law_types" "_law_types" (defArgs s_law_types) (defBody s_law_types) (defScope s_law_types) .none kV31 dc31 pm31 an31 cd31 ct31), sl31⟩)
    (c31 : PySem.W.codeIn K cd31 "_law_types" = true) (k31 : PySem.W.keepIn K (.ref f31) = true)
    (a32 : PySem.W.nsIn K mainGlobals "_law_raised" = some (some (.ref f32)))
    (l32 : K.lookup f32 = some ⟨oc32, od32, .func (PySem.W.fnOf "_law_raised" "_law_raised" (defArgs s_law_raised) (defBody s_law_raised) (defScope s_law_raised) .none kV32 dc32 pm32 an32 cd32 ct32), sl32⟩)
    (c32 : PySem.W.codeIn K cd32 "_law_raised" = true) (k32 : PySem.W.keepIn K (.ref f32) = true)
    (a33 : PySem.W.nsIn K mainGlobals "_law_type_of" = some (some (.ref f33)))
    (l33 : K.lookup f33 = some ⟨oc33, od33, .func (PySem.W.fnOf "_law_type_of" "_law_type_of" (defArgs s_law_type_of) (defBody s_law_type_of) (defScope s_law_type_of) .none kV33 dc33 pm33 an33 cd33 ct33), sl33⟩)
    (c33 : PySem.W.codeIn K cd33 "_law_type_of" = true) (k33 : PySem.W.keepIn K (.ref f33) = true)
    (a34 : PySem.W.nsIn K mainGlobals "_law_some_value" = some (some (.ref f34)))
    (l34 : K.lookup f34 = some ⟨oc34, od34, .func (PySem.W.fnOf "_law_some_value" "_law_some_value" (defArgs s_law_some_value) (defBody s_law_some_value) (defScope s_law_some_value) .none kV34 dc34 pm34 an34 cd34 ct34), sl34⟩)
    (c34 : PySem.W.codeIn K cd34 "_law_some_value" = true) (k34 : PySem.W.keepIn K (.ref f34) = true)
    (a35 : PySem.W.nsIn K mainGlobals "_law_outcome" = some (some (.ref f35)))
    (l35 : K.lookup f35 = some ⟨oc35, od35, .func (PySem.W.fnOf "_law_outcome" "_law_outcome" (defArgs s_law_outcome) (defBody s_law_outcome) (defScope s_law_outcome) .none kV35 dc35 pm35 an35 cd35 ct35), sl35⟩)
    (c35 : PySem.W.codeIn K cd35 "_law_outcome" = true) (k35 : PySem.W.keepIn K (.ref f35) = true)
    (a36 : PySem.W.nsIn K mainGlobals "_law_point" = some (some (.ref f36)))
    (l36 : K.lookup f36 = some ⟨oc36, od36, .func (PySem.W.fnOf "_law_point" "_law_point" (defArgs s_law_point) (defBody s_law_point) (defScope s_law_point) .none kV36 dc36 pm36 an36 cd36 ct36), sl36⟩)
    (c36 : PySem.W.codeIn K cd36 "_law_point" = true) (k36 : PySem.W.keepIn K (.ref f36) = true)
    (a37 : PySem.W.nsIn K mainGlobals "_law_setting" = some (some (.ref f37)))
    (l37 : K.lookup f37 = some ⟨oc37, od37, .func (PySem.W.fnOf "_law_setting" "_law_setting" (defArgs s_law_setting) (defBody s_law_setting) (defScope s_law_setting) .none kV37 dc37 pm37 an37 cd37 ct37), sl37⟩)
    (c37 : PySem.W.codeIn K cd37 "_law_setting" = true) (k37 : PySem.W.keepIn K (.ref f37) = true)
    {ca38 cp38 : Addr} {cl38 : Value} {cd38b : Option Addr} {cs38 : Array (Option Value)} {us38 : Array Value} {er38 : DefRec}
    (a38 : PySem.W.nsIn K mainGlobals "_law_value_right" = some (some (.ref f38)))
    (l38 : K.lookup f38 = some ⟨oc38, od38, .func (PySem.W.fnOf "_law_value_right" "_law_value_right" (defArgs s_law_value_right) (defBody s_law_value_right) (defScope s_law_value_right) .none kV38 dc38 pm38 an38 (.ref ca38) ct38), sl38⟩)
    (c38 : PySem.W.codeIn K (.ref ca38) "_law_value_right" = true) (k38 : PySem.W.keepIn K (.ref f38) = true)
    (lv38 : K.lookup ca38 = some ⟨cl38, cd38b, .fields us38, cs38⟩) (ve38 : us38[11]? = some (.ref cp38)) (kn38 : K.lookup cp38 = none) (rc38 : (PyProof.Rows.recsOf qv).find? (fun e => e.name == ("_law_value_right" : Str)) = some er38)
    {ca39 cp39 : Addr} {cl39 : Value} {cd39b : Option Addr} {cs39 : Array (Option Value)} {us39 : Array Value} {er39 : DefRec}
    (a39 : PySem.W.nsIn K mainGlobals "_law_refused_right" = some (some (.ref f39)))
    (l39 : K.lookup f39 = some ⟨oc39, od39, .func (PySem.W.fnOf "_law_refused_right" "_law_refused_right" (defArgs s_law_refused_right) (defBody s_law_refused_right) (defScope s_law_refused_right) .none kV39 dc39 pm39 an39 (.ref ca39) ct39), sl39⟩)
    (c39 : PySem.W.codeIn K (.ref ca39) "_law_refused_right" = true) (k39 : PySem.W.keepIn K (.ref f39) = true)
    (lv39 : K.lookup ca39 = some ⟨cl39, cd39b, .fields us39, cs39⟩) (ve39 : us39[11]? = some (.ref cp39)) (kn39 : K.lookup cp39 = none) (rc39 : (PyProof.Rows.recsOf qv).find? (fun e => e.name == ("_law_refused_right" : Str)) = some er39)
    {ca40 cp40 : Addr} {cl40 : Value} {cd40b : Option Addr} {cs40 : Array (Option Value)} {us40 : Array Value} {er40 : DefRec}
    (a40 : PySem.W.nsIn K mainGlobals "_law_types_right" = some (some (.ref f40)))
    (l40 : K.lookup f40 = some ⟨oc40, od40, .func (PySem.W.fnOf "_law_types_right" "_law_types_right" (defArgs s_law_types_right) (defBody s_law_types_right) (defScope s_law_types_right) .none kV40 dc40 pm40 an40 (.ref ca40) ct40), sl40⟩)
    (c40 : PySem.W.codeIn K (.ref ca40) "_law_types_right" = true) (k40 : PySem.W.keepIn K (.ref f40) = true)
    (lv40 : K.lookup ca40 = some ⟨cl40, cd40b, .fields us40, cs40⟩) (ve40 : us40[11]? = some (.ref cp40)) (kn40 : K.lookup cp40 = none) (rc40 : (PyProof.Rows.recsOf qv).find? (fun e => e.name == ("_law_types_right" : Str)) = some er40)
    (a41 : PySem.W.nsIn K mainGlobals "law" = some (some (.ref f41)))
    (l41 : K.lookup f41 = some ⟨oc41, od41, .func (PySem.W.fnOf "law" "law" (defArgs s_law) (defBody s_law) (defScope s_law) .none kV41 dc41 pm41 an41 cd41 ct41), sl41⟩)
    (c41 : PySem.W.codeIn K cd41 "law" = true) (k41 : PySem.W.keepIn K (.ref f41) = true)
    (nq38_39 : cp38 ≠ cp39)
    (nq38_40 : cp38 ≠ cp40)
    (nq39_40 : cp39 ≠ cp40)
    (m_gcd : PySem.W.nsIn K mainGlobals "gcd" = some (some (.builtin "math.gcd")))
    (m_lcm : PySem.W.nsIn K mainGlobals "lcm" = some (some (.builtin "math.lcm")))
    {C_UnknownName : Addr} (m_UnknownName : PySem.W.nsIn K mainGlobals "UnknownName" = some (some (.ref C_UnknownName)))
    {nm_UnknownName qn_UnknownName : Str} {N_UnknownName : Addr} {bs_UnknownName bm_UnknownName : List Value} {sn_UnknownName : List Str} {sub_UnknownName : List Value} {ab_UnknownName : Bool} {col_UnknownName : Option Bool} {dd_UnknownName : Option Addr} {k0_UnknownName k1_UnknownName k2_UnknownName k3_UnknownName k5_UnknownName : Option Value}
    (l_UnknownName : K.lookup C_UnknownName = some (excClassObj nm_UnknownName qn_UnknownName C_UnknownName N_UnknownName bs_UnknownName bm_UnknownName true sn_UnknownName sub_UnknownName ab_UnknownName col_UnknownName dd_UnknownName k0_UnknownName k1_UnknownName k2_UnknownName k3_UnknownName k5_UnknownName "ValueError.__new__"))
    (h_UnknownName : PySem.HandSPX.refsVE bm_UnknownName = true)
    (sa_UnknownName : PySem.W.findIn K (.ref C_UnknownName) "__setattr__" = some (some (.builtin "object.__setattr__")))
    (xc_UnknownName : PySem.W.subIn K (.ref C_UnknownName) (.type "BaseException") = some true) (ty_UnknownName : PySem.W.typeIn K (.ref C_UnknownName) = some (.type "type")) (kp_UnknownName : PySem.W.keepIn K (.ref C_UnknownName) = true)
    (ga_UnknownName : PySem.W.findIn K (.ref C_UnknownName) "__getattribute__" = some (some (.builtin "BaseException.__getattribute__"))) (gg_UnknownName : PySem.W.findIn K (.ref C_UnknownName) "__getattr__" = some none) (hd_UnknownName : PySem.W.hasDictIn K C_UnknownName = true)
    {f_UnknownName_init : Addr} (i_UnknownName : PySem.W.findIn K (.ref C_UnknownName) "__init__" = some (some (.ref f_UnknownName_init))) (t_UnknownName : PySem.W.typeIn K (.ref f_UnknownName_init) = some (.type "function"))
    {od_UnknownName_init an_UnknownName_init : Option Addr} {sl_UnknownName_init : Array (Option Value)} {oc_UnknownName_init kV_UnknownName_init dc_UnknownName_init pm_UnknownName_init ct_UnknownName_init : Value}
    {ca_UnknownName_init cc_UnknownName_init : Addr} {cl_UnknownName_init cv_UnknownName_init : Value} {ce_UnknownName_init cf_UnknownName_init : Option Addr} {cs_UnknownName_init ct2_UnknownName_init : Array (Option Value)} {vs_UnknownName_init : Array Value} {fl_UnknownName_init : Str} {tf_UnknownName_init : Tok}
    (l_UnknownName_init : K.lookup f_UnknownName_init = some ⟨oc_UnknownName_init, od_UnknownName_init, .func (PySem.W.ksFn "__init__" "UnknownName.__init__" (defArgs s_UnknownName_init) (defBody s_UnknownName_init) (defScope s_UnknownName_init) .none kV_UnknownName_init dc_UnknownName_init pm_UnknownName_init an_UnknownName_init (.ref ca_UnknownName_init) ct_UnknownName_init cc_UnknownName_init), sl_UnknownName_init⟩)
    (c_UnknownName_init : PySem.W.codeIn K (.ref ca_UnknownName_init) "UnknownName.__init__" = true) (k_UnknownName_init : PySem.W.keepIn K (.ref f_UnknownName_init) = true)
    (lc_UnknownName_init : K.lookup cc_UnknownName_init = some ⟨cl_UnknownName_init, ce_UnknownName_init, .cell (some (.ref C_UnknownName)), cs_UnknownName_init⟩) (lv_UnknownName_init : K.lookup ca_UnknownName_init = some ⟨cv_UnknownName_init, cf_UnknownName_init, .fields vs_UnknownName_init, ct2_UnknownName_init⟩) (v2_UnknownName_init : vs_UnknownName_init[2]? = some (.str fl_UnknownName_init tf_UnknownName_init)) (fe_UnknownName_init : ((l.prog.main.file : Str) == fl_UnknownName_init) = true)
    (mr_UnknownName : PySem.W.mroIn K C_UnknownName (.ref C_UnknownName) = some true) (sv_UnknownName : PySem.W.subIn K (.ref C_UnknownName) (.type "ValueError") = some true) (sm_UnknownName : PySem.W.ks_superIn K C_UnknownName C_UnknownName "__init__" = some (some (.builtin "ValueError.__init__"))) (op_UnknownName : PySem.W.nsIn K cStatics "thirdparty.any" = some none) (tp_UnknownName : (l.prog.main.scope.names.lookup ("super" : Str)).isSome = false)
    (n_UnknownName_name : PySem.W.findIn K (.ref C_UnknownName) "name" = some none)
    {C_TooMany : Addr} (m_TooMany : PySem.W.nsIn K mainGlobals "TooMany" = some (some (.ref C_TooMany)))
    {nm_TooMany qn_TooMany : Str} {N_TooMany : Addr} {bs_TooMany bm_TooMany : List Value} {sn_TooMany : List Str} {sub_TooMany : List Value} {ab_TooMany : Bool} {col_TooMany : Option Bool} {dd_TooMany : Option Addr} {k0_TooMany k1_TooMany k2_TooMany k3_TooMany k5_TooMany : Option Value}
    (l_TooMany : K.lookup C_TooMany = some (excClassObj nm_TooMany qn_TooMany C_TooMany N_TooMany bs_TooMany bm_TooMany true sn_TooMany sub_TooMany ab_TooMany col_TooMany dd_TooMany k0_TooMany k1_TooMany k2_TooMany k3_TooMany k5_TooMany "ValueError.__new__"))
    (h_TooMany : PySem.HandSPX.refsVE bm_TooMany = true)
    (sa_TooMany : PySem.W.findIn K (.ref C_TooMany) "__setattr__" = some (some (.builtin "object.__setattr__")))
    (xc_TooMany : PySem.W.subIn K (.ref C_TooMany) (.type "BaseException") = some true) (ty_TooMany : PySem.W.typeIn K (.ref C_TooMany) = some (.type "type")) (kp_TooMany : PySem.W.keepIn K (.ref C_TooMany) = true)
    (ga_TooMany : PySem.W.findIn K (.ref C_TooMany) "__getattribute__" = some (some (.builtin "BaseException.__getattribute__"))) (gg_TooMany : PySem.W.findIn K (.ref C_TooMany) "__getattr__" = some none) (hd_TooMany : PySem.W.hasDictIn K C_TooMany = true)
    {f_TooMany_init : Addr} (i_TooMany : PySem.W.findIn K (.ref C_TooMany) "__init__" = some (some (.ref f_TooMany_init))) (t_TooMany : PySem.W.typeIn K (.ref f_TooMany_init) = some (.type "function"))
    {od_TooMany_init an_TooMany_init : Option Addr} {sl_TooMany_init : Array (Option Value)} {oc_TooMany_init kV_TooMany_init dc_TooMany_init pm_TooMany_init ct_TooMany_init : Value}
    {ca_TooMany_init cc_TooMany_init : Addr} {cl_TooMany_init cv_TooMany_init : Value} {ce_TooMany_init cf_TooMany_init : Option Addr} {cs_TooMany_init ct2_TooMany_init : Array (Option Value)} {vs_TooMany_init : Array Value} {fl_TooMany_init : Str} {tf_TooMany_init : Tok}
    (l_TooMany_init : K.lookup f_TooMany_init = some ⟨oc_TooMany_init, od_TooMany_init, .func (PySem.W.ksFn "__init__" "TooMany.__init__" (defArgs s_TooMany_init) (defBody s_TooMany_init) (defScope s_TooMany_init) .none kV_TooMany_init dc_TooMany_init pm_TooMany_init an_TooMany_init (.ref ca_TooMany_init) ct_TooMany_init cc_TooMany_init), sl_TooMany_init⟩)
    (c_TooMany_init : PySem.W.codeIn K (.ref ca_TooMany_init) "TooMany.__init__" = true) (k_TooMany_init : PySem.W.keepIn K (.ref f_TooMany_init) = true)
    (lc_TooMany_init : K.lookup cc_TooMany_init = some ⟨cl_TooMany_init, ce_TooMany_init, .cell (some (.ref C_TooMany)), cs_TooMany_init⟩) (lv_TooMany_init : K.lookup ca_TooMany_init = some ⟨cv_TooMany_init, cf_TooMany_init, .fields vs_TooMany_init, ct2_TooMany_init⟩) (v2_TooMany_init : vs_TooMany_init[2]? = some (.str fl_TooMany_init tf_TooMany_init)) (fe_TooMany_init : ((l.prog.main.file : Str) == fl_TooMany_init) = true)
    (mr_TooMany : PySem.W.mroIn K C_TooMany (.ref C_TooMany) = some true) (sv_TooMany : PySem.W.subIn K (.ref C_TooMany) (.type "ValueError") = some true) (sm_TooMany : PySem.W.ks_superIn K C_TooMany C_TooMany "__init__" = some (some (.builtin "ValueError.__init__"))) (op_TooMany : PySem.W.nsIn K cStatics "thirdparty.any" = some none) (tp_TooMany : (l.prog.main.scope.names.lookup ("super" : Str)).isSome = false)
    (n_TooMany_what : PySem.W.findIn K (.ref C_TooMany) "what" = some none)
    {C_OutOfRange : Addr} (m_OutOfRange : PySem.W.nsIn K mainGlobals "OutOfRange" = some (some (.ref C_OutOfRange)))
    {nm_OutOfRange qn_OutOfRange : Str} {N_OutOfRange : Addr} {bs_OutOfRange bm_OutOfRange : List Value} {sn_OutOfRange : List Str} {sub_OutOfRange : List Value} {ab_OutOfRange : Bool} {col_OutOfRange : Option Bool} {dd_OutOfRange : Option Addr} {k0_OutOfRange k1_OutOfRange k2_OutOfRange k3_OutOfRange k5_OutOfRange : Option Value}
    (l_OutOfRange : K.lookup C_OutOfRange = some (excClassObj nm_OutOfRange qn_OutOfRange C_OutOfRange N_OutOfRange bs_OutOfRange bm_OutOfRange true sn_OutOfRange sub_OutOfRange ab_OutOfRange col_OutOfRange dd_OutOfRange k0_OutOfRange k1_OutOfRange k2_OutOfRange k3_OutOfRange k5_OutOfRange "ValueError.__new__"))
    (h_OutOfRange : PySem.HandSPX.refsVE bm_OutOfRange = true)
    (sa_OutOfRange : PySem.W.findIn K (.ref C_OutOfRange) "__setattr__" = some (some (.builtin "object.__setattr__")))
    (xc_OutOfRange : PySem.W.subIn K (.ref C_OutOfRange) (.type "BaseException") = some true) (ty_OutOfRange : PySem.W.typeIn K (.ref C_OutOfRange) = some (.type "type")) (kp_OutOfRange : PySem.W.keepIn K (.ref C_OutOfRange) = true)
    (ga_OutOfRange : PySem.W.findIn K (.ref C_OutOfRange) "__getattribute__" = some (some (.builtin "BaseException.__getattribute__"))) (gg_OutOfRange : PySem.W.findIn K (.ref C_OutOfRange) "__getattr__" = some none) (hd_OutOfRange : PySem.W.hasDictIn K C_OutOfRange = true)
    {f_OutOfRange_init : Addr} (i_OutOfRange : PySem.W.findIn K (.ref C_OutOfRange) "__init__" = some (some (.ref f_OutOfRange_init))) (t_OutOfRange : PySem.W.typeIn K (.ref f_OutOfRange_init) = some (.type "function"))
    {od_OutOfRange_init an_OutOfRange_init : Option Addr} {sl_OutOfRange_init : Array (Option Value)} {oc_OutOfRange_init kV_OutOfRange_init dc_OutOfRange_init pm_OutOfRange_init ct_OutOfRange_init : Value}
    {ca_OutOfRange_init cc_OutOfRange_init : Addr} {cl_OutOfRange_init cv_OutOfRange_init : Value} {ce_OutOfRange_init cf_OutOfRange_init : Option Addr} {cs_OutOfRange_init ct2_OutOfRange_init : Array (Option Value)} {vs_OutOfRange_init : Array Value} {fl_OutOfRange_init : Str} {tf_OutOfRange_init : Tok}
    (l_OutOfRange_init : K.lookup f_OutOfRange_init = some ⟨oc_OutOfRange_init, od_OutOfRange_init, .func (PySem.W.ksFn "__init__" "OutOfRange.__init__" (defArgs s_OutOfRange_init) (defBody s_OutOfRange_init) (defScope s_OutOfRange_init) .none kV_OutOfRange_init dc_OutOfRange_init pm_OutOfRange_init an_OutOfRange_init (.ref ca_OutOfRange_init) ct_OutOfRange_init cc_OutOfRange_init), sl_OutOfRange_init⟩)
    (c_OutOfRange_init : PySem.W.codeIn K (.ref ca_OutOfRange_init) "OutOfRange.__init__" = true) (k_OutOfRange_init : PySem.W.keepIn K (.ref f_OutOfRange_init) = true)
    (lc_OutOfRange_init : K.lookup cc_OutOfRange_init = some ⟨cl_OutOfRange_init, ce_OutOfRange_init, .cell (some (.ref C_OutOfRange)), cs_OutOfRange_init⟩) (lv_OutOfRange_init : K.lookup ca_OutOfRange_init = some ⟨cv_OutOfRange_init, cf_OutOfRange_init, .fields vs_OutOfRange_init, ct2_OutOfRange_init⟩) (v2_OutOfRange_init : vs_OutOfRange_init[2]? = some (.str fl_OutOfRange_init tf_OutOfRange_init)) (fe_OutOfRange_init : ((l.prog.main.file : Str) == fl_OutOfRange_init) = true)
    (mr_OutOfRange : PySem.W.mroIn K C_OutOfRange (.ref C_OutOfRange) = some true) (sv_OutOfRange : PySem.W.subIn K (.ref C_OutOfRange) (.type "ValueError") = some true) (sm_OutOfRange : PySem.W.ks_superIn K C_OutOfRange C_OutOfRange "__init__" = some (some (.builtin "ValueError.__init__"))) (op_OutOfRange : PySem.W.nsIn K cStatics "thirdparty.any" = some none) (tp_OutOfRange : (l.prog.main.scope.names.lookup ("super" : Str)).isSome = false)
    (n_OutOfRange_value : PySem.W.findIn K (.ref C_OutOfRange) "value" = some none)
    {C_WrongMark : Addr} (m_WrongMark : PySem.W.nsIn K mainGlobals "WrongMark" = some (some (.ref C_WrongMark)))
    {nm_WrongMark qn_WrongMark : Str} {N_WrongMark : Addr} {bs_WrongMark bm_WrongMark : List Value} {sn_WrongMark : List Str} {sub_WrongMark : List Value} {ab_WrongMark : Bool} {col_WrongMark : Option Bool} {dd_WrongMark : Option Addr} {k0_WrongMark k1_WrongMark k2_WrongMark k3_WrongMark k5_WrongMark : Option Value}
    (l_WrongMark : K.lookup C_WrongMark = some (excClassObj nm_WrongMark qn_WrongMark C_WrongMark N_WrongMark bs_WrongMark bm_WrongMark true sn_WrongMark sub_WrongMark ab_WrongMark col_WrongMark dd_WrongMark k0_WrongMark k1_WrongMark k2_WrongMark k3_WrongMark k5_WrongMark "ValueError.__new__"))
    (h_WrongMark : PySem.HandSPX.refsVE bm_WrongMark = true)
    (sa_WrongMark : PySem.W.findIn K (.ref C_WrongMark) "__setattr__" = some (some (.builtin "object.__setattr__")))
    (xc_WrongMark : PySem.W.subIn K (.ref C_WrongMark) (.type "BaseException") = some true) (ty_WrongMark : PySem.W.typeIn K (.ref C_WrongMark) = some (.type "type")) (kp_WrongMark : PySem.W.keepIn K (.ref C_WrongMark) = true)
    (ga_WrongMark : PySem.W.findIn K (.ref C_WrongMark) "__getattribute__" = some (some (.builtin "BaseException.__getattribute__"))) (gg_WrongMark : PySem.W.findIn K (.ref C_WrongMark) "__getattr__" = some none) (hd_WrongMark : PySem.W.hasDictIn K C_WrongMark = true)
    {f_WrongMark_init : Addr} (i_WrongMark : PySem.W.findIn K (.ref C_WrongMark) "__init__" = some (some (.ref f_WrongMark_init))) (t_WrongMark : PySem.W.typeIn K (.ref f_WrongMark_init) = some (.type "function"))
    {od_WrongMark_init an_WrongMark_init : Option Addr} {sl_WrongMark_init : Array (Option Value)} {oc_WrongMark_init kV_WrongMark_init dc_WrongMark_init pm_WrongMark_init ct_WrongMark_init : Value}
    {ca_WrongMark_init cc_WrongMark_init : Addr} {cl_WrongMark_init cv_WrongMark_init : Value} {ce_WrongMark_init cf_WrongMark_init : Option Addr} {cs_WrongMark_init ct2_WrongMark_init : Array (Option Value)} {vs_WrongMark_init : Array Value} {fl_WrongMark_init : Str} {tf_WrongMark_init : Tok}
    (l_WrongMark_init : K.lookup f_WrongMark_init = some ⟨oc_WrongMark_init, od_WrongMark_init, .func (PySem.W.ksFn "__init__" "WrongMark.__init__" (defArgs s_WrongMark_init) (defBody s_WrongMark_init) (defScope s_WrongMark_init) .none kV_WrongMark_init dc_WrongMark_init pm_WrongMark_init an_WrongMark_init (.ref ca_WrongMark_init) ct_WrongMark_init cc_WrongMark_init), sl_WrongMark_init⟩)
    (c_WrongMark_init : PySem.W.codeIn K (.ref ca_WrongMark_init) "WrongMark.__init__" = true) (k_WrongMark_init : PySem.W.keepIn K (.ref f_WrongMark_init) = true)
    (lc_WrongMark_init : K.lookup cc_WrongMark_init = some ⟨cl_WrongMark_init, ce_WrongMark_init, .cell (some (.ref C_WrongMark)), cs_WrongMark_init⟩) (lv_WrongMark_init : K.lookup ca_WrongMark_init = some ⟨cv_WrongMark_init, cf_WrongMark_init, .fields vs_WrongMark_init, ct2_WrongMark_init⟩) (v2_WrongMark_init : vs_WrongMark_init[2]? = some (.str fl_WrongMark_init tf_WrongMark_init)) (fe_WrongMark_init : ((l.prog.main.file : Str) == fl_WrongMark_init) = true)
    (mr_WrongMark : PySem.W.mroIn K C_WrongMark (.ref C_WrongMark) = some true) (sv_WrongMark : PySem.W.subIn K (.ref C_WrongMark) (.type "ValueError") = some true) (sm_WrongMark : PySem.W.ks_superIn K C_WrongMark C_WrongMark "__init__" = some (some (.builtin "ValueError.__init__"))) (op_WrongMark : PySem.W.nsIn K cStatics "thirdparty.any" = some none) (tp_WrongMark : (l.prog.main.scope.names.lookup ("super" : Str)).isSome = false)
    (n_WrongMark_mark : PySem.W.findIn K (.ref C_WrongMark) "mark" = some none)
    (e_UnknownName_WrongMark : PySem.W.subIn K (.ref C_UnknownName) (.ref C_WrongMark) = some false)
    (e_UnknownName_TooMany : PySem.W.subIn K (.ref C_UnknownName) (.ref C_TooMany) = some false)
    (e_UnknownName_UnknownName : PySem.W.subIn K (.ref C_UnknownName) (.ref C_UnknownName) = some true)
    (e_UnknownName_OutOfRange : PySem.W.subIn K (.ref C_UnknownName) (.ref C_OutOfRange) = some false)
    (e_TooMany_WrongMark : PySem.W.subIn K (.ref C_TooMany) (.ref C_WrongMark) = some false)
    (e_TooMany_TooMany : PySem.W.subIn K (.ref C_TooMany) (.ref C_TooMany) = some true)
    (e_TooMany_UnknownName : PySem.W.subIn K (.ref C_TooMany) (.ref C_UnknownName) = some false)
    (e_TooMany_OutOfRange : PySem.W.subIn K (.ref C_TooMany) (.ref C_OutOfRange) = some false)
    (e_OutOfRange_WrongMark : PySem.W.subIn K (.ref C_OutOfRange) (.ref C_WrongMark) = some false)
    (e_OutOfRange_TooMany : PySem.W.subIn K (.ref C_OutOfRange) (.ref C_TooMany) = some false)
    (e_OutOfRange_UnknownName : PySem.W.subIn K (.ref C_OutOfRange) (.ref C_UnknownName) = some false)
    (e_OutOfRange_OutOfRange : PySem.W.subIn K (.ref C_OutOfRange) (.ref C_OutOfRange) = some true)
    (e_WrongMark_WrongMark : PySem.W.subIn K (.ref C_WrongMark) (.ref C_WrongMark) = some true)
    (e_WrongMark_TooMany : PySem.W.subIn K (.ref C_WrongMark) (.ref C_TooMany) = some false)
    (e_WrongMark_UnknownName : PySem.W.subIn K (.ref C_WrongMark) (.ref C_UnknownName) = some false)
    (e_WrongMark_OutOfRange : PySem.W.subIn K (.ref C_WrongMark) (.ref C_OutOfRange) = some false)
    (z_super : PySem.W.nsIn K mainGlobals "super" = some none)
    (z_tuple : PySem.W.nsIn K mainGlobals "tuple" = some none)
    (z_list : PySem.W.nsIn K mainGlobals "list" = some none)
    (z_any : PySem.W.nsIn K mainGlobals "any" = some none)
    (z_len : PySem.W.nsIn K mainGlobals "len" = some none)
    (z_zip : PySem.W.nsIn K mainGlobals "zip" = some none)
    (z_min : PySem.W.nsIn K mainGlobals "min" = some none)
    (z_enumerate : PySem.W.nsIn K mainGlobals "enumerate" = some none)
    (z_range : PySem.W.nsIn K mainGlobals "range" = some none)
    (z_all : PySem.W.nsIn K mainGlobals "all" = some none)
    (z_max : PySem.W.nsIn K mainGlobals "max" = some none)
    (z_sorted : PySem.W.nsIn K mainGlobals "sorted" = some none)
    (z_int : PySem.W.nsIn K mainGlobals "int" = some none)
    (z_abs : PySem.W.nsIn K mainGlobals "abs" = some none)
    (z_set : PySem.W.nsIn K mainGlobals "set" = some none)
    (z_dict : PySem.W.nsIn K mainGlobals "dict" = some none)
    (z_repr : PySem.W.nsIn K mainGlobals "repr" = some none)
    {u_MOST_UNKNOWNS : Value} (n_MOST_UNKNOWNS : PySem.W.nsIn K mainGlobals "MOST_UNKNOWNS" = some (some u_MOST_UNKNOWNS)) (r_MOST_UNKNOWNS : RelV (.int 4) u_MOST_UNKNOWNS) :
    ∃ (fd : FuncData) (cs : List (Addr × Addr)) (sp : Sp), (∀ (s : Shared) (v : Value), BindsTo s fd ⟨[v], []⟩ [("script", v)]) ∧ (∀ p ∈ cs, K.lookup p.2 = none ∧ ∃ (y : Str) (e : DefRec), (PyProof.Rows.recsOf qv).find? (fun e => e.name == y) = some e ∧ PySem.W.tabIn K y = some p) ∧
      (∀ (H : Hp) (a : Addr) (ns : List Int), ns.length ≤ 63 → (∀ z ∈ ns, Builtin.Int.intBits z ≤ 1048576) → (∀ p ∈ cs, H p.2 = some (.tbl #[])) → SqL K H a (ns.map V.int) → sp [.ref a] H (fun v _ => v = .bl true) fun _ _ _ => False) ∧
      ∀ base : Heap, K.In base → base.Ns mainGlobals mg → (∀ p ∈ cs, LamX.TabB base mg p.1 p.2) → FnG l.prog w K mg base CX0 132 fa fd ["script"] sp := by
  have e := hfa.symm.trans (PySem.W.mg_of X G a41)
  cases e
  have F1 := fun_mk (st := s_parts_of) l1 c1 k1
  have F2 := fun_mk (st := s_all_words) l2 c2 k2
  have F3 := fun_mk (st := s_unknowns_of) l3 c3 k3
  have F4 := fun_mk (st := s_check_meant) l4 c4 k4
  have F5 := fun_mk (st := s_check_order) l5 c5 k5
  have F6 := fun_mk (st := s_order_numbers) l6 c6 k6
  have F7 := fun_mk (st := s_given_numbers) l7 c7 k7
  have F8 := fun_mk (st := s_levels_at) l8 c8 k8
  have F9 := fun_mk (st := s_lowest_terms) l9 c9 k9
  have F10 := fun_mk (st := s_fraction) l10 c10 k10
  have F11 := fun_mk (st := s_denominator_of) l11 c11 k11
  have F12 := fun_mk (st := s_numbers_for) l12 c12 k12
  have F13 := fun_mk (st := s_check_names) l13 c13 k13
  have F14 := fun_mk (st := s_order_value) l14 c14 k14
  have F15 := fun_mk (st := s_order_types) l15 c15 k15
  have F16 := fun_mk (st := s_has_all_levels) l16 c16 k16
  have F17 := fun_mk (st := s_blocks_of) l17 c17 k17
  have F18 := fun_mk (st := s_order_type_of) l18 c18 k18
  have F19 := fun_mk (st := s_raised_type) l19 c19 k19
  have F20 := fun_mk (st := s_point_of_type) l20 c20 k20
  have F21 := fun_mk (st := s_order_level) l21 c21 k21
  have F22 := fun_mk (st := s_law_begun) l22 c22 k22
  have F23 := fun_mk (st := s_law_draw) l23 c23 k23
  have F24 := fun_mk (st := s_law_of) l24 c24 k24
  have F25 := fun_mk (st := s_law_saying) l25 c25 k25
  have F26 := fun_mk (st := s_law_names_in) l26 c26 k26
  have F27 := fun_mk (st := s_law_lowest) l27 c27 k27
  have F28 := fun_mk (st := s_law_turned) l28 c28 k28
  have F29 := fun_mk (st := s_law_ranked) l29 c29 k29
  have F30 := fun_mk (st := s_law_blocks) l30 c30 k30
  have F31 := fun_mk (st := s_law_types) l31 c31 k31
  have F32 := fun_mk (st := s_law_raised) l32 c32 k32
  have F33 := fun_mk (st := s_law_type_of) l33 c33 k33
  have F34 := fun_mk (st := s_law_some_value) l34 c34 k34
  have F35 := fun_mk (st := s_law_outcome) l35 c35 k35
  have F36 := fun_mk (st := s_law_point) l36 c36 k36
  have F37 := fun_mk (st := s_law_setting) l37 c37 k37
  have F38 : FunL K "_law_value_right" "_law_value_right" s_law_value_right f38 _ ca38 := ⟨⟨_, _, _, _, _, _, _, _, rfl, l38, c38⟩, k38⟩
  have b38 : Binds K _ ["m"] [] := Binds.all (fd := PySem.W.fnOf "_law_value_right" "_law_value_right" (defArgs s_law_value_right) (defBody s_law_value_right) (defScope s_law_value_right) .none kV38 dc38 pm38 an38 (.ref ca38) ct38) fun us hl => match us, hl with | [_], _ => rfl
  have F39 : FunL K "_law_refused_right" "_law_refused_right" s_law_refused_right f39 _ ca39 := ⟨⟨_, _, _, _, _, _, _, _, rfl, l39, c39⟩, k39⟩
  have b39 : Binds K _ ["m"] [] := Binds.all (fd := PySem.W.fnOf "_law_refused_right" "_law_refused_right" (defArgs s_law_refused_right) (defBody s_law_refused_right) (defScope s_law_refused_right) .none kV39 dc39 pm39 an39 (.ref ca39) ct39) fun us hl => match us, hl with | [_], _ => rfl
  have F40 : FunL K "_law_types_right" "_law_types_right" s_law_types_right f40 _ ca40 := ⟨⟨_, _, _, _, _, _, _, _, rfl, l40, c40⟩, k40⟩
  have b40 : Binds K _ ["m"] [] := Binds.all (fd := PySem.W.fnOf "_law_types_right" "_law_types_right" (defArgs s_law_types_right) (defBody s_law_types_right) (defScope s_law_types_right) .none kV40 dc40 pm40 an40 (.ref ca40) ct40) fun us hl => match us, hl with | [_], _ => rfl
  have F41 := fun_mk (st := s_law) l41 c41 k41
  have b1 := F1.binds (ps := ["word"]) fun _ _ _ _ _ _ us hl => match us, hl with | [_], _ => rfl
  have b2 := F2.binds (ps := ["saying"]) fun _ _ _ _ _ _ us hl => match us, hl with | [_], _ => rfl
  have b3 := F3.binds (ps := ["sayings"]) fun _ _ _ _ _ _ us hl => match us, hl with | [_], _ => rfl
  have b4 := F4.binds (ps := ["sayings"]) fun _ _ _ _ _ _ us hl => match us, hl with | [_], _ => rfl
  have b5 := F5.binds (ps := ["sayings"]) fun _ _ _ _ _ _ us hl => match us, hl with | [_], _ => rfl
  have b6 := F6.binds (ps := ["saying", "columns", "top", "size"]) fun _ _ _ _ _ _ us hl => match us, hl with | [_, _, _, _], _ => rfl
  have b7 := F7.binds (ps := ["mark", "firsts", "seconds", "top"]) fun _ _ _ _ _ _ us hl => match us, hl with | [_, _, _, _], _ => rfl
  have b8 := F8.binds (ps := ["saying", "names", "kinds"]) fun _ _ _ _ _ _ us hl => match us, hl with | [_, _, _], _ => rfl
  have b9 := F9.binds (ps := ["above", "below"]) fun _ _ _ _ _ _ us hl => match us, hl with | [_, _], _ => rfl
  have b10 := F10.binds (ps := ["above", "below"]) fun _ _ _ _ _ _ us hl => match us, hl with | [_, _], _ => rfl
  have b11 := F11.binds (ps := ["point"]) fun _ _ _ _ _ _ us hl => match us, hl with | [_], _ => rfl
  have b12 := F12.binds (ps := ["names", "point"]) fun _ _ _ _ _ _ us hl => match us, hl with | [_, _], _ => rfl
  have b13 := F13.binds (ps := ["needed", "names"]) fun _ _ _ _ _ _ us hl => match us, hl with | [_, _], _ => rfl
  have b14 := F14.binds (ps := ["saying", "names", "point"]) fun _ _ _ _ _ _ us hl => match us, hl with | [_, _, _], _ => rfl
  have b15 := F15.binds (ps := ["count"]) fun _ _ _ _ _ _ us hl => match us, hl with | [_], _ => rfl
  have b16 := F16.binds (ps := ["levels"]) fun _ _ _ _ _ _ us hl => match us, hl with | [_], _ => rfl
  have b17 := F17.binds (ps := ["kind"]) fun _ _ _ _ _ _ us hl => match us, hl with | [_], _ => rfl
  have b18 := F18.binds (ps := ["point"]) fun _ _ _ _ _ _ us hl => match us, hl with | [_], _ => rfl
  have b19 := F19.binds (ps := ["kind"]) fun _ _ _ _ _ _ us hl => match us, hl with | [_], _ => rfl
  have b20 := F20.binds (ps := ["kind"]) fun _ _ _ _ _ _ us hl => match us, hl with | [_], _ => rfl
  have b21 := F21.binds (ps := ["saying", "names", "kind"]) fun _ _ _ _ _ _ us hl => match us, hl with | [_, _, _], _ => rfl
  have b22 := F22.binds (ps := ["script", "k"]) fun _ _ _ _ _ _ us hl => match us, hl with | [_, _], _ => rfl
  have b23 := F23.binds (ps := ["m", "below"]) fun _ _ _ _ _ _ us hl => match us, hl with | [_, _], _ => rfl
  have b24 := F24.binds (ps := ["m", "some"]) fun _ _ _ _ _ _ us hl => match us, hl with | [_, _], _ => rfl
  have b25 := F25.binds (ps := ["m", "names", "size"]) fun _ _ _ _ _ _ us hl => match us, hl with | [_, _, _], _ => rfl
  have b26 := F26.binds (ps := ["saying", "found"]) fun _ _ _ _ _ _ us hl => match us, hl with | [_, _], _ => rfl
  have b27 := F27.binds (ps := ["above", "below"]) fun _ _ _ _ _ _ us hl => match us, hl with | [_, _], _ => rfl
  have b28 := F28.binds (ps := ["saying"]) fun _ _ _ _ _ _ us hl => match us, hl with | [_], _ => rfl
  have b29 := F29.binds (ps := ["saying", "table", "whole"]) fun _ _ _ _ _ _ us hl => match us, hl with | [_, _, _], _ => rfl
  have b30 := F30.binds (ps := ["kind"]) fun _ _ _ _ _ _ us hl => match us, hl with | [_], _ => rfl
  have b31 := F31.binds (ps := ["count"]) fun _ _ _ _ _ _ us hl => match us, hl with | [_], _ => rfl
  have b32 := F32.binds (ps := ["kind"]) fun _ _ _ _ _ _ us hl => match us, hl with | [_], _ => rfl
  have b33 := F33.binds (ps := ["point"]) fun _ _ _ _ _ _ us hl => match us, hl with | [_], _ => rfl
  have b34 := F34.binds (ps := ["m"]) fun _ _ _ _ _ _ us hl => match us, hl with | [_], _ => rfl
  have b35 := F35.binds (ps := ["call"]) fun _ _ _ _ _ _ us hl => match us, hl with | [_], _ => rfl
  have b36 := F36.binds (ps := ["m", "count"]) fun _ _ _ _ _ _ us hl => match us, hl with | [_, _], _ => rfl
  have b37 := F37.binds (ps := ["m"]) fun _ _ _ _ _ _ us hl => match us, hl with | [_], _ => rfl
  have F_UnknownName_init : SupFun l.prog K C_UnknownName "UnknownName.__init__" s_UnknownName_init f_UnknownName_init _ := ⟨⟨_, _, _, _, _, _, _, _, _, _, rfl, l_UnknownName_init, c_UnknownName_init, ⟨_, _, _, lc_UnknownName_init⟩, ⟨_, _, _, _, _, _, lv_UnknownName_init, v2_UnknownName_init, fe_UnknownName_init⟩⟩, k_UnknownName_init⟩
  have b_UnknownName_init : Binds K _ ["self", "name"] [] := Binds.all (fd := PySem.W.ksFn "__init__" "UnknownName.__init__" (defArgs s_UnknownName_init) (defBody s_UnknownName_init) (defScope s_UnknownName_init) .none kV_UnknownName_init dc_UnknownName_init pm_UnknownName_init an_UnknownName_init (.ref ca_UnknownName_init) ct_UnknownName_init cc_UnknownName_init) fun us hl => match us, hl with | [_, _], _ => rfl
  have S_UnknownName : SupC l.prog K C_UnknownName := ⟨Option.isSome_iff_exists.mp (clsIn_exc l_UnknownName), mr_UnknownName, sv_UnknownName, sm_UnknownName, op_UnknownName, tp_UnknownName⟩
  have F_TooMany_init : SupFun l.prog K C_TooMany "TooMany.__init__" s_TooMany_init f_TooMany_init _ := ⟨⟨_, _, _, _, _, _, _, _, _, _, rfl, l_TooMany_init, c_TooMany_init, ⟨_, _, _, lc_TooMany_init⟩, ⟨_, _, _, _, _, _, lv_TooMany_init, v2_TooMany_init, fe_TooMany_init⟩⟩, k_TooMany_init⟩
  have b_TooMany_init : Binds K _ ["self", "what"] [] := Binds.all (fd := PySem.W.ksFn "__init__" "TooMany.__init__" (defArgs s_TooMany_init) (defBody s_TooMany_init) (defScope s_TooMany_init) .none kV_TooMany_init dc_TooMany_init pm_TooMany_init an_TooMany_init (.ref ca_TooMany_init) ct_TooMany_init cc_TooMany_init) fun us hl => match us, hl with | [_, _], _ => rfl
  have S_TooMany : SupC l.prog K C_TooMany := ⟨Option.isSome_iff_exists.mp (clsIn_exc l_TooMany), mr_TooMany, sv_TooMany, sm_TooMany, op_TooMany, tp_TooMany⟩
  have F_OutOfRange_init : SupFun l.prog K C_OutOfRange "OutOfRange.__init__" s_OutOfRange_init f_OutOfRange_init _ := ⟨⟨_, _, _, _, _, _, _, _, _, _, rfl, l_OutOfRange_init, c_OutOfRange_init, ⟨_, _, _, lc_OutOfRange_init⟩, ⟨_, _, _, _, _, _, lv_OutOfRange_init, v2_OutOfRange_init, fe_OutOfRange_init⟩⟩, k_OutOfRange_init⟩
  have b_OutOfRange_init : Binds K _ ["self", "value"] [] := Binds.all (fd := PySem.W.ksFn "__init__" "OutOfRange.__init__" (defArgs s_OutOfRange_init) (defBody s_OutOfRange_init) (defScope s_OutOfRange_init) .none kV_OutOfRange_init dc_OutOfRange_init pm_OutOfRange_init an_OutOfRange_init (.ref ca_OutOfRange_init) ct_OutOfRange_init cc_OutOfRange_init) fun us hl => match us, hl with | [_, _], _ => rfl
  have S_OutOfRange : SupC l.prog K C_OutOfRange := ⟨Option.isSome_iff_exists.mp (clsIn_exc l_OutOfRange), mr_OutOfRange, sv_OutOfRange, sm_OutOfRange, op_OutOfRange, tp_OutOfRange⟩
  have F_WrongMark_init : SupFun l.prog K C_WrongMark "WrongMark.__init__" s_WrongMark_init f_WrongMark_init _ := ⟨⟨_, _, _, _, _, _, _, _, _, _, rfl, l_WrongMark_init, c_WrongMark_init, ⟨_, _, _, lc_WrongMark_init⟩, ⟨_, _, _, _, _, _, lv_WrongMark_init, v2_WrongMark_init, fe_WrongMark_init⟩⟩, k_WrongMark_init⟩
  have b_WrongMark_init : Binds K _ ["self", "mark"] [] := Binds.all (fd := PySem.W.ksFn "__init__" "WrongMark.__init__" (defArgs s_WrongMark_init) (defBody s_WrongMark_init) (defScope s_WrongMark_init) .none kV_WrongMark_init dc_WrongMark_init pm_WrongMark_init an_WrongMark_init (.ref ca_WrongMark_init) ct_WrongMark_init cc_WrongMark_init) fun us hl => match us, hl with | [_, _], _ => rfl
  have S_WrongMark : SupC l.prog K C_WrongMark := ⟨Option.isSome_iff_exists.mp (clsIn_exc l_WrongMark), mr_WrongMark, sv_WrongMark, sm_WrongMark, op_WrongMark, tp_WrongMark⟩
  let T : Txt l.prog K mg := {
    f_parts_of := f1,
    d_parts_of := _,
    F_parts_of := F1,
    b_parts_of := b1,
    g_parts_of := PySem.W.mg_of X G a1,
    f_all_words := f2,
    d_all_words := _,
    F_all_words := F2,
    b_all_words := b2,
    g_all_words := PySem.W.mg_of X G a2,
    f_unknowns_of := f3,
    d_unknowns_of := _,
    F_unknowns_of := F3,
    b_unknowns_of := b3,
    g_unknowns_of := PySem.W.mg_of X G a3,
    f_check_meant := f4,
    d_check_meant := _,
    F_check_meant := F4,
    b_check_meant := b4,
    g_check_meant := PySem.W.mg_of X G a4,
    f_check_order := f5,
    d_check_order := _,
    F_check_order := F5,
    b_check_order := b5,
    g_check_order := PySem.W.mg_of X G a5,
    f_order_numbers := f6,
    d_order_numbers := _,
    F_order_numbers := F6,
    b_order_numbers := b6,
    g_order_numbers := PySem.W.mg_of X G a6,
    f_given_numbers := f7,
    d_given_numbers := _,
    F_given_numbers := F7,
    b_given_numbers := b7,
    g_given_numbers := PySem.W.mg_of X G a7,
    f_levels_at := f8,
    d_levels_at := _,
    F_levels_at := F8,
    b_levels_at := b8,
    g_levels_at := PySem.W.mg_of X G a8,
    f_lowest_terms := f9,
    d_lowest_terms := _,
    F_lowest_terms := F9,
    b_lowest_terms := b9,
    g_lowest_terms := PySem.W.mg_of X G a9,
    f_fraction := f10,
    d_fraction := _,
    F_fraction := F10,
    b_fraction := b10,
    g_fraction := PySem.W.mg_of X G a10,
    f_denominator_of := f11,
    d_denominator_of := _,
    F_denominator_of := F11,
    b_denominator_of := b11,
    g_denominator_of := PySem.W.mg_of X G a11,
    f_numbers_for := f12,
    d_numbers_for := _,
    F_numbers_for := F12,
    b_numbers_for := b12,
    g_numbers_for := PySem.W.mg_of X G a12,
    f_check_names := f13,
    d_check_names := _,
    F_check_names := F13,
    b_check_names := b13,
    g_check_names := PySem.W.mg_of X G a13,
    f_order_value := f14,
    d_order_value := _,
    F_order_value := F14,
    b_order_value := b14,
    g_order_value := PySem.W.mg_of X G a14,
    f_order_types := f15,
    d_order_types := _,
    F_order_types := F15,
    b_order_types := b15,
    g_order_types := PySem.W.mg_of X G a15,
    f_has_all_levels := f16,
    d_has_all_levels := _,
    F_has_all_levels := F16,
    b_has_all_levels := b16,
    g_has_all_levels := PySem.W.mg_of X G a16,
    f_blocks_of := f17,
    d_blocks_of := _,
    F_blocks_of := F17,
    b_blocks_of := b17,
    g_blocks_of := PySem.W.mg_of X G a17,
    f_order_type_of := f18,
    d_order_type_of := _,
    F_order_type_of := F18,
    b_order_type_of := b18,
    g_order_type_of := PySem.W.mg_of X G a18,
    f_raised_type := f19,
    d_raised_type := _,
    F_raised_type := F19,
    b_raised_type := b19,
    g_raised_type := PySem.W.mg_of X G a19,
    f_point_of_type := f20,
    d_point_of_type := _,
    F_point_of_type := F20,
    b_point_of_type := b20,
    g_point_of_type := PySem.W.mg_of X G a20,
    f_order_level := f21,
    d_order_level := _,
    F_order_level := F21,
    b_order_level := b21,
    g_order_level := PySem.W.mg_of X G a21,
    f_law_begun := f22,
    d_law_begun := _,
    F_law_begun := F22,
    b_law_begun := b22,
    g_law_begun := PySem.W.mg_of X G a22,
    f_law_draw := f23,
    d_law_draw := _,
    F_law_draw := F23,
    b_law_draw := b23,
    g_law_draw := PySem.W.mg_of X G a23,
    f_law_of := f24,
    d_law_of := _,
    F_law_of := F24,
    b_law_of := b24,
    g_law_of := PySem.W.mg_of X G a24,
    f_law_saying := f25,
    d_law_saying := _,
    F_law_saying := F25,
    b_law_saying := b25,
    g_law_saying := PySem.W.mg_of X G a25,
    f_law_names_in := f26,
    d_law_names_in := _,
    F_law_names_in := F26,
    b_law_names_in := b26,
    g_law_names_in := PySem.W.mg_of X G a26,
    f_law_lowest := f27,
    d_law_lowest := _,
    F_law_lowest := F27,
    b_law_lowest := b27,
    g_law_lowest := PySem.W.mg_of X G a27,
    f_law_turned := f28,
    d_law_turned := _,
    F_law_turned := F28,
    b_law_turned := b28,
    g_law_turned := PySem.W.mg_of X G a28,
    f_law_ranked := f29,
    d_law_ranked := _,
    F_law_ranked := F29,
    b_law_ranked := b29,
    g_law_ranked := PySem.W.mg_of X G a29,
    f_law_blocks := f30,
    d_law_blocks := _,
    F_law_blocks := F30,
    b_law_blocks := b30,
    g_law_blocks := PySem.W.mg_of X G a30,
    f_law_types := f31,
    d_law_types := _,
    F_law_types := F31,
    b_law_types := b31,
    g_law_types := PySem.W.mg_of X G a31,
    f_law_raised := f32,
    d_law_raised := _,
    F_law_raised := F32,
    b_law_raised := b32,
    g_law_raised := PySem.W.mg_of X G a32,
    f_law_type_of := f33,
    d_law_type_of := _,
    F_law_type_of := F33,
    b_law_type_of := b33,
    g_law_type_of := PySem.W.mg_of X G a33,
    f_law_some_value := f34,
    d_law_some_value := _,
    F_law_some_value := F34,
    b_law_some_value := b34,
    g_law_some_value := PySem.W.mg_of X G a34,
    f_law_outcome := f35,
    d_law_outcome := _,
    F_law_outcome := F35,
    b_law_outcome := b35,
    g_law_outcome := PySem.W.mg_of X G a35,
    f_law_point := f36,
    d_law_point := _,
    F_law_point := F36,
    b_law_point := b36,
    g_law_point := PySem.W.mg_of X G a36,
    f_law_setting := f37,
    d_law_setting := _,
    F_law_setting := F37,
    b_law_setting := b37,
    g_law_setting := PySem.W.mg_of X G a37,
    c_law_value_right := ca38,
    P_law_value_right := cp38,
    q_law_value_right_law_refused_right := nq38_39,
    q_law_value_right_law_types_right := nq38_40,
    f_law_value_right := f38,
    d_law_value_right := _,
    F_law_value_right := F38,
    b_law_value_right := b38,
    g_law_value_right := PySem.W.mg_of X G a38,
    c_law_refused_right := ca39,
    P_law_refused_right := cp39,
    q_law_refused_right_law_types_right := nq39_40,
    f_law_refused_right := f39,
    d_law_refused_right := _,
    F_law_refused_right := F39,
    b_law_refused_right := b39,
    g_law_refused_right := PySem.W.mg_of X G a39,
    c_law_types_right := ca40,
    P_law_types_right := cp40,
    f_law_types_right := f40,
    d_law_types_right := _,
    F_law_types_right := F40,
    b_law_types_right := b40,
    g_law_types_right := PySem.W.mg_of X G a40,
    m_gcd := PySem.W.mg_of X G m_gcd,
    m_lcm := PySem.W.mg_of X G m_lcm,
    S_UnknownName := S_UnknownName,
    C_UnknownName := C_UnknownName,
    m_UnknownName := PySem.W.mg_of X G m_UnknownName,
    o_UnknownName := ⟨⟨_, _, _, _, _, _, _, _, _, _, _, _, _, _, _, l_UnknownName, h_UnknownName⟩, sa_UnknownName, xc_UnknownName, ty_UnknownName, kp_UnknownName⟩,
    x_UnknownName := ⟨ga_UnknownName, gg_UnknownName, xc_UnknownName, hd_UnknownName⟩,
    f_UnknownName_init := f_UnknownName_init,
    d_UnknownName_init := _,
    F_UnknownName_init := F_UnknownName_init,
    b_UnknownName_init := b_UnknownName_init,
    i_UnknownName := i_UnknownName,
    t_UnknownName := t_UnknownName,
    n_UnknownName_name := n_UnknownName_name,
    S_TooMany := S_TooMany,
    C_TooMany := C_TooMany,
    m_TooMany := PySem.W.mg_of X G m_TooMany,
    o_TooMany := ⟨⟨_, _, _, _, _, _, _, _, _, _, _, _, _, _, _, l_TooMany, h_TooMany⟩, sa_TooMany, xc_TooMany, ty_TooMany, kp_TooMany⟩,
    x_TooMany := ⟨ga_TooMany, gg_TooMany, xc_TooMany, hd_TooMany⟩,
    f_TooMany_init := f_TooMany_init,
    d_TooMany_init := _,
    F_TooMany_init := F_TooMany_init,
    b_TooMany_init := b_TooMany_init,
    i_TooMany := i_TooMany,
    t_TooMany := t_TooMany,
    n_TooMany_what := n_TooMany_what,
    S_OutOfRange := S_OutOfRange,
    C_OutOfRange := C_OutOfRange,
    m_OutOfRange := PySem.W.mg_of X G m_OutOfRange,
    o_OutOfRange := ⟨⟨_, _, _, _, _, _, _, _, _, _, _, _, _, _, _, l_OutOfRange, h_OutOfRange⟩, sa_OutOfRange, xc_OutOfRange, ty_OutOfRange, kp_OutOfRange⟩,
    x_OutOfRange := ⟨ga_OutOfRange, gg_OutOfRange, xc_OutOfRange, hd_OutOfRange⟩,
    f_OutOfRange_init := f_OutOfRange_init,
    d_OutOfRange_init := _,
    F_OutOfRange_init := F_OutOfRange_init,
    b_OutOfRange_init := b_OutOfRange_init,
    i_OutOfRange := i_OutOfRange,
    t_OutOfRange := t_OutOfRange,
    n_OutOfRange_value := n_OutOfRange_value,
    S_WrongMark := S_WrongMark,
    C_WrongMark := C_WrongMark,
    m_WrongMark := PySem.W.mg_of X G m_WrongMark,
    o_WrongMark := ⟨⟨_, _, _, _, _, _, _, _, _, _, _, _, _, _, _, l_WrongMark, h_WrongMark⟩, sa_WrongMark, xc_WrongMark, ty_WrongMark, kp_WrongMark⟩,
    x_WrongMark := ⟨ga_WrongMark, gg_WrongMark, xc_WrongMark, hd_WrongMark⟩,
    f_WrongMark_init := f_WrongMark_init,
    d_WrongMark_init := _,
    F_WrongMark_init := F_WrongMark_init,
    b_WrongMark_init := b_WrongMark_init,
    i_WrongMark := i_WrongMark,
    t_WrongMark := t_WrongMark,
    n_WrongMark_mark := n_WrongMark_mark,
    e_UnknownName_WrongMark := exm_of (clsIn_exc l_WrongMark) ty_WrongMark xc_WrongMark e_UnknownName_WrongMark,
    e_UnknownName_TooMany := exm_of (clsIn_exc l_TooMany) ty_TooMany xc_TooMany e_UnknownName_TooMany,
    e_UnknownName_UnknownName := exm_of (clsIn_exc l_UnknownName) ty_UnknownName xc_UnknownName e_UnknownName_UnknownName,
    e_UnknownName_OutOfRange := exm_of (clsIn_exc l_OutOfRange) ty_OutOfRange xc_OutOfRange e_UnknownName_OutOfRange,
    e_TooMany_WrongMark := exm_of (clsIn_exc l_WrongMark) ty_WrongMark xc_WrongMark e_TooMany_WrongMark,
    e_TooMany_TooMany := exm_of (clsIn_exc l_TooMany) ty_TooMany xc_TooMany e_TooMany_TooMany,
    e_TooMany_UnknownName := exm_of (clsIn_exc l_UnknownName) ty_UnknownName xc_UnknownName e_TooMany_UnknownName,
    e_TooMany_OutOfRange := exm_of (clsIn_exc l_OutOfRange) ty_OutOfRange xc_OutOfRange e_TooMany_OutOfRange,
    e_OutOfRange_WrongMark := exm_of (clsIn_exc l_WrongMark) ty_WrongMark xc_WrongMark e_OutOfRange_WrongMark,
    e_OutOfRange_TooMany := exm_of (clsIn_exc l_TooMany) ty_TooMany xc_TooMany e_OutOfRange_TooMany,
    e_OutOfRange_UnknownName := exm_of (clsIn_exc l_UnknownName) ty_UnknownName xc_UnknownName e_OutOfRange_UnknownName,
    e_OutOfRange_OutOfRange := exm_of (clsIn_exc l_OutOfRange) ty_OutOfRange xc_OutOfRange e_OutOfRange_OutOfRange,
    e_WrongMark_WrongMark := exm_of (clsIn_exc l_WrongMark) ty_WrongMark xc_WrongMark e_WrongMark_WrongMark,
    e_WrongMark_TooMany := exm_of (clsIn_exc l_TooMany) ty_TooMany xc_TooMany e_WrongMark_TooMany,
    e_WrongMark_UnknownName := exm_of (clsIn_exc l_UnknownName) ty_UnknownName xc_UnknownName e_WrongMark_UnknownName,
    e_WrongMark_OutOfRange := exm_of (clsIn_exc l_OutOfRange) ty_OutOfRange xc_OutOfRange e_WrongMark_OutOfRange,
    z_super := PySem.W.mg_none_of X G z_super,
    z_tuple := PySem.W.mg_none_of X G z_tuple,
    z_list := PySem.W.mg_none_of X G z_list,
    z_any := PySem.W.mg_none_of X G z_any,
    z_len := PySem.W.mg_none_of X G z_len,
    z_zip := PySem.W.mg_none_of X G z_zip,
    z_min := PySem.W.mg_none_of X G z_min,
    z_enumerate := PySem.W.mg_none_of X G z_enumerate,
    z_range := PySem.W.mg_none_of X G z_range,
    z_all := PySem.W.mg_none_of X G z_all,
    z_max := PySem.W.mg_none_of X G z_max,
    z_sorted := PySem.W.mg_none_of X G z_sorted,
    z_int := PySem.W.mg_none_of X G z_int,
    z_abs := PySem.W.mg_none_of X G z_abs,
    z_set := PySem.W.mg_none_of X G z_set,
    z_dict := PySem.W.mg_none_of X G z_dict,
    z_repr := PySem.W.mg_none_of X G z_repr,
    u_MOST_UNKNOWNS := u_MOST_UNKNOWNS,
    c_MOST_UNKNOWNS := PySem.W.mg_of X G n_MOST_UNKNOWNS,
    r_MOST_UNKNOWNS := r_MOST_UNKNOWNS }
  refine ⟨_, [(ca38, cp38), (ca39, cp39), (ca40, cp40)], spLaw K (tabsT T), fun s v => .of_eq rfl, ?_, ?_, fun base _ _ tb => ok_law T (tb _ (List.mem_cons_self ..)) (tb _ (List.mem_cons_of_mem _ (List.mem_cons_self ..))) (tb _ (List.mem_cons_of_mem _ (List.mem_cons_of_mem _ (List.mem_cons_self ..)))) F41⟩
  · intro p hp
    rcases List.mem_cons.mp hp with rfl | hp
    · exact ⟨kn38, "_law_value_right", er38, rc38, tab_in a38 l38 rfl lv38 ve38⟩
    rcases List.mem_cons.mp hp with rfl | hp
    · exact ⟨kn39, "_law_refused_right", er39, rc39, tab_in a39 l39 rfl lv39 ve39⟩
    rcases List.mem_cons.mp hp with rfl | hp
    · exact ⟨kn40, "_law_types_right", er40, rc40, tab_in a40 l40 rfl lv40 ve40⟩
    cases hp
  · intro H a ns h1 h2 ht hS
    refine ⟨a, ns, rfl, hS, h1, h2, ?_, fun _ => rfl⟩
    intro p hp
    rcases List.mem_cons.mp hp with rfl | hp
    · exact LamX.TabS.nil (ht (ca38, cp38) (List.mem_cons_self ..))
    rcases List.mem_cons.mp hp with rfl | hp
    · exact LamX.TabS.nil (ht (ca39, cp39) (List.mem_cons_of_mem _ (List.mem_cons_self ..)))
    rcases List.mem_cons.mp hp with rfl | hp
    · exact LamX.TabS.nil (ht (ca40, cp40) (List.mem_cons_of_mem _ (List.mem_cons_of_mem _ (List.mem_cons_self ..))))
    cases hp
end Lw
open PySem PySem.W PyProof.Rows in
set_option maxRecDepth 100000 in
set_option maxHeartbeats 0 in
theorem PySem.Challenge.cw_halftruths_k36_order_values_holds : PySem.Challenge.rw_halftruths_k36_order_values.Holds := by
  w_on; o_law; k_head; (case hw => w_witness2)
  k_fill
  refine Gd.walkGT (l := PySem.Challenge.rw_halftruths_k36_order_values) (n := 63) (k := 132) (x := "script") rfl (by decide) rfl ⟨rfl, by decide, by decide⟩ (fun w h Y => by first | exact PySem.W.km_in_of Y | exact PySem.W.kIn_of Y) ?F
  case F =>
    intro w mg fa h KX G hmg
    refine' Lw.all_mk KX G hmg ?a1 ?l1 ?c1 ?k1 ?a2 ?l2 ?c2 ?k2 ?a3 ?l3 ?c3 ?k3 ?a4 ?l4 ?c4 ?k4 ?a5 ?l5 ?c5 ?k5 ?a6 ?l6 ?c6 ?k6 ?a7 ?l7 ?c7 ?k7 ?a8 ?l8 ?c8 ?k8 ?a9 ?l9 ?c9 ?k9 ?a10 ?l10 ?c10 ?k10 ?a11 ?l11 ?c11 ?k11 ?a12 ?l12 ?c12 ?k12 ?a13 ?l13 ?c13 ?k13 ?a14 ?l14 ?c14 ?k14 ?a15 ?l15 ?c15 ?k15 ?a16 ?l16 ?c16 ?k16 ?a17 ?l17 ?c17 ?k17 ?a18 ?l18 ?c18 ?k18 ?a19 ?l19 ?c19 ?k19 ?a20 ?l20 ?c20 ?k20 ?a21 ?l21 ?c21 ?k21 ?a22 ?l22 ?c22 ?k22 ?a23 ?l23 ?c23 ?k23 ?a24 ?l24 ?c24 ?k24 ?a25 ?l25 ?c25 ?k25 ?a26 ?l26 ?c26 ?k26 ?a27 ?l27 ?c27 ?k27 ?a28 ?l28 ?c28 ?k28 ?a29 ?l29 ?c29 ?k29 ?a30 ?l30 ?c30 ?k30 ?a31 ?l31 ?c31 ?k31 ?a32 ?l32 ?c32 ?k32 ?a33 ?l33 ?c33 ?k33 ?a34 ?l34 ?c34 ?k34 ?a35 ?l35 ?c35 ?k35 ?a36 ?l36 ?c36 ?k36 ?a37 ?l37 ?c37 ?k37 ?a38 ?l38 ?c38 ?k38 ?lv38 ?ve38 ?kn38 ?rc38 ?a39 ?l39 ?c39 ?k39 ?lv39 ?ve39 ?kn39 ?rc39 ?a40 ?l40 ?c40 ?k40 ?lv40 ?ve40 ?kn40 ?rc40 ?a41 ?l41 ?c41 ?k41 ?nq38_39 ?nq38_40 ?nq39_40 ?m_gcd ?m_lcm ?m_UnknownName ?l_UnknownName ?h_UnknownName ?sa_UnknownName ?xc_UnknownName ?ty_UnknownName ?kp_UnknownName ?ga_UnknownName ?gg_UnknownName ?hd_UnknownName ?i_UnknownName ?t_UnknownName ?l_UnknownName_init ?c_UnknownName_init ?k_UnknownName_init ?lc_UnknownName_init ?lv_UnknownName_init ?v2_UnknownName_init ?fe_UnknownName_init ?mr_UnknownName ?sv_UnknownName ?sm_UnknownName ?op_UnknownName ?tp_UnknownName ?n_UnknownName_name ?m_TooMany ?l_TooMany ?h_TooMany ?sa_TooMany ?xc_TooMany ?ty_TooMany ?kp_TooMany ?ga_TooMany ?gg_TooMany ?hd_TooMany ?i_TooMany ?t_TooMany ?l_TooMany_init ?c_TooMany_init ?k_TooMany_init ?lc_TooMany_init ?lv_TooMany_init ?v2_TooMany_init ?fe_TooMany_init ?mr_TooMany ?sv_TooMany ?sm_TooMany ?op_TooMany ?tp_TooMany ?n_TooMany_what ?m_OutOfRange ?l_OutOfRange ?h_OutOfRange ?sa_OutOfRange ?xc_OutOfRange ?ty_OutOfRange ?kp_OutOfRange ?ga_OutOfRange ?gg_OutOfRange ?hd_OutOfRange ?i_OutOfRange ?t_OutOfRange ?l_OutOfRange_init ?c_OutOfRange_init ?k_OutOfRange_init ?lc_OutOfRange_init ?lv_OutOfRange_init ?v2_OutOfRange_init ?fe_OutOfRange_init ?mr_OutOfRange ?sv_OutOfRange ?sm_OutOfRange ?op_OutOfRange ?tp_OutOfRange ?n_OutOfRange_value ?m_WrongMark ?l_WrongMark ?h_WrongMark ?sa_WrongMark ?xc_WrongMark ?ty_WrongMark ?kp_WrongMark ?ga_WrongMark ?gg_WrongMark ?hd_WrongMark ?i_WrongMark ?t_WrongMark ?l_WrongMark_init ?c_WrongMark_init ?k_WrongMark_init ?lc_WrongMark_init ?lv_WrongMark_init ?v2_WrongMark_init ?fe_WrongMark_init ?mr_WrongMark ?sv_WrongMark ?sm_WrongMark ?op_WrongMark ?tp_WrongMark ?n_WrongMark_mark ?e_UnknownName_WrongMark ?e_UnknownName_TooMany ?e_UnknownName_UnknownName ?e_UnknownName_OutOfRange ?e_TooMany_WrongMark ?e_TooMany_TooMany ?e_TooMany_UnknownName ?e_TooMany_OutOfRange ?e_OutOfRange_WrongMark ?e_OutOfRange_TooMany ?e_OutOfRange_UnknownName ?e_OutOfRange_OutOfRange ?e_WrongMark_WrongMark ?e_WrongMark_TooMany ?e_WrongMark_UnknownName ?e_WrongMark_OutOfRange ?z_super ?z_tuple ?z_list ?z_any ?z_len ?z_zip ?z_min ?z_enumerate ?z_range ?z_all ?z_max ?z_sorted ?z_int ?z_abs ?z_set ?z_dict ?z_repr ?n_MOST_UNKNOWNS ?r_MOST_UNKNOWNS
    (case a1 => k_is)
    (case l1 => k_is)
    (case c1 => k_is)
    (case k1 => k_is)
    (case a2 => k_is)
    (case l2 => k_is)
    (case c2 => k_is)
    (case k2 => k_is)
    (case a3 => k_is)
    (case l3 => k_is)
    (case c3 => k_is)
    (case k3 => k_is)
    (case a4 => k_is)
    (case l4 => k_is)
    (case c4 => k_is)
    (case k4 => k_is)
    (case a5 => k_is)
    (case l5 => k_is)
    (case c5 => k_is)
    (case k5 => k_is)
    (case a6 => k_is)
    (case l6 => k_is)
    (case c6 => k_is)
    (case k6 => k_is)
    (case a7 => k_is)
    (case l7 => k_is)
    (case c7 => k_is)
    (case k7 => k_is)
    (case a8 => k_is)
    (case l8 => k_is)
    (case c8 => k_is)
    (case k8 => k_is)
    (case a9 => k_is)
    (case l9 => k_is)
    (case c9 => k_is)
    (case k9 => k_is)
    (case a10 => k_is)
    (case l10 => k_is)
    (case c10 => k_is)
    (case k10 => k_is)
    (case a11 => k_is)
    (case l11 => k_is)
    (case c11 => k_is)
    (case k11 => k_is)
    (case a12 => k_is)
    (case l12 => k_is)
    (case c12 => k_is)
    (case k12 => k_is)
    (case a13 => k_is)
    (case l13 => k_is)
    (case c13 => k_is)
    (case k13 => k_is)
    (case a14 => k_is)
    (case l14 => k_is)
    (case c14 => k_is)
    (case k14 => k_is)
    (case a15 => k_is)
    (case l15 => k_is)
    (case c15 => k_is)
    (case k15 => k_is)
    (case a16 => k_is)
    (case l16 => k_is)
    (case c16 => k_is)
    (case k16 => k_is)
    (case a17 => k_is)
    (case l17 => k_is)
    (case c17 => k_is)
    (case k17 => k_is)
    (case a18 => k_is)
    (case l18 => k_is)
    (case c18 => k_is)
    (case k18 => k_is)
    (case a19 => k_is)
    (case l19 => k_is)
    (case c19 => k_is)
    (case k19 => k_is)
    (case a20 => k_is)
    (case l20 => k_is)
    (case c20 => k_is)
    (case k20 => k_is)
    (case a21 => k_is)
    (case l21 => k_is)
    (case c21 => k_is)
    (case k21 => k_is)
    (case a22 => k_is)
    (case l22 => k_is)
    (case c22 => k_is)
    (case k22 => k_is)
    (case a23 => k_is)
    (case l23 => k_is)
    (case c23 => k_is)
    (case k23 => k_is)
    (case a24 => k_is)
    (case l24 => k_is)
    (case c24 => k_is)
    (case k24 => k_is)
    (case a25 => k_is)
    (case l25 => k_is)
    (case c25 => k_is)
    (case k25 => k_is)
    (case a26 => k_is)
    (case l26 => k_is)
    (case c26 => k_is)
    (case k26 => k_is)
    (case a27 => k_is)
    (case l27 => k_is)
    (case c27 => k_is)
    (case k27 => k_is)
    (case a28 => k_is)
    (case l28 => k_is)
    (case c28 => k_is)
    (case k28 => k_is)
    (case a29 => k_is)
    (case l29 => k_is)
    (case c29 => k_is)
    (case k29 => k_is)
    (case a30 => k_is)
    (case l30 => k_is)
    (case c30 => k_is)
    (case k30 => k_is)
    (case a31 => k_is)
    (case l31 => k_is)
    (case c31 => k_is)
    (case k31 => k_is)
    (case a32 => k_is)
    (case l32 => k_is)
    (case c32 => k_is)
    (case k32 => k_is)
    (case a33 => k_is)
    (case l33 => k_is)
    (case c33 => k_is)
    (case k33 => k_is)
    (case a34 => k_is)
    (case l34 => k_is)
    (case c34 => k_is)
    (case k34 => k_is)
    (case a35 => k_is)
    (case l35 => k_is)
    (case c35 => k_is)
    (case k35 => k_is)
    (case a36 => k_is)
    (case l36 => k_is)
    (case c36 => k_is)
    (case k36 => k_is)
    (case a37 => k_is)
    (case l37 => k_is)
    (case c37 => k_is)
    (case k37 => k_is)
    (case a38 => k_is)
    (case l38 => k_is)
    (case c38 => k_is)
    (case k38 => k_is)
    (case lv38 => k_is)
    (case ve38 => rfl)
    (case kn38 => first | rfl | kernel_rfl)
    (case rc38 => first | rfl | kernel_rfl)
    (case a39 => k_is)
    (case l39 => k_is)
    (case c39 => k_is)
    (case k39 => k_is)
    (case lv39 => k_is)
    (case ve39 => rfl)
    (case kn39 => first | rfl | kernel_rfl)
    (case rc39 => first | rfl | kernel_rfl)
    (case a40 => k_is)
    (case l40 => k_is)
    (case c40 => k_is)
    (case k40 => k_is)
    (case lv40 => k_is)
    (case ve40 => rfl)
    (case kn40 => first | rfl | kernel_rfl)
    (case rc40 => first | rfl | kernel_rfl)
    (case a41 => k_is)
    (case l41 => k_is)
    (case c41 => k_is)
    (case k41 => k_is)
    (case nq38_39 => decide)
    (case nq38_40 => decide)
    (case nq39_40 => decide)
    (case m_gcd => k_is)
    (case m_lcm => k_is)
    (case m_UnknownName => k_is)
    (case l_UnknownName => k_is)
    (case h_UnknownName => rfl)
    (case sa_UnknownName => k_is)
    (case xc_UnknownName => k_is)
    (case ty_UnknownName => k_is)
    (case kp_UnknownName => k_is)
    (case ga_UnknownName => k_is)
    (case gg_UnknownName => k_is)
    (case hd_UnknownName => k_is)
    (case i_UnknownName => k_is)
    (case t_UnknownName => k_is)
    (case l_UnknownName_init => k_is)
    (case c_UnknownName_init => k_is)
    (case k_UnknownName_init => k_is)
    (case lc_UnknownName_init => k_is)
    (case lv_UnknownName_init => k_is)
    (case v2_UnknownName_init => rfl)
    (case fe_UnknownName_init => first | rfl | decide +kernel)
    (case mr_UnknownName => k_is)
    (case sv_UnknownName => k_is)
    (case sm_UnknownName => first | ks_is | k_is)
    (case op_UnknownName => k_is)
    (case tp_UnknownName => decide +kernel)
    (case n_UnknownName_name => k_is)
    (case m_TooMany => k_is)
    (case l_TooMany => k_is)
    (case h_TooMany => rfl)
    (case sa_TooMany => k_is)
    (case xc_TooMany => k_is)
    (case ty_TooMany => k_is)
    (case kp_TooMany => k_is)
    (case ga_TooMany => k_is)
    (case gg_TooMany => k_is)
    (case hd_TooMany => k_is)
    (case i_TooMany => k_is)
    (case t_TooMany => k_is)
    (case l_TooMany_init => k_is)
    (case c_TooMany_init => k_is)
    (case k_TooMany_init => k_is)
    (case lc_TooMany_init => k_is)
    (case lv_TooMany_init => k_is)
    (case v2_TooMany_init => rfl)
    (case fe_TooMany_init => first | rfl | decide +kernel)
    (case mr_TooMany => k_is)
    (case sv_TooMany => k_is)
    (case sm_TooMany => first | ks_is | k_is)
    (case op_TooMany => k_is)
    (case tp_TooMany => decide +kernel)
    (case n_TooMany_what => k_is)
    (case m_OutOfRange => k_is)
    (case l_OutOfRange => k_is)
    (case h_OutOfRange => rfl)
    (case sa_OutOfRange => k_is)
    (case xc_OutOfRange => k_is)
    (case ty_OutOfRange => k_is)
    (case kp_OutOfRange => k_is)
    (case ga_OutOfRange => k_is)
    (case gg_OutOfRange => k_is)
    (case hd_OutOfRange => k_is)
    (case i_OutOfRange => k_is)
    (case t_OutOfRange => k_is)
    (case l_OutOfRange_init => k_is)
    (case c_OutOfRange_init => k_is)
    (case k_OutOfRange_init => k_is)
    (case lc_OutOfRange_init => k_is)
    (case lv_OutOfRange_init => k_is)
    (case v2_OutOfRange_init => rfl)
    (case fe_OutOfRange_init => first | rfl | decide +kernel)
    (case mr_OutOfRange => k_is)
    (case sv_OutOfRange => k_is)
    (case sm_OutOfRange => first | ks_is | k_is)
    (case op_OutOfRange => k_is)
    (case tp_OutOfRange => decide +kernel)
    (case n_OutOfRange_value => k_is)
    (case m_WrongMark => k_is)
    (case l_WrongMark => k_is)
    (case h_WrongMark => rfl)
    (case sa_WrongMark => k_is)
    (case xc_WrongMark => k_is)
    (case ty_WrongMark => k_is)
    (case kp_WrongMark => k_is)
    (case ga_WrongMark => k_is)
    (case gg_WrongMark => k_is)
    (case hd_WrongMark => k_is)
    (case i_WrongMark => k_is)
    (case t_WrongMark => k_is)
    (case l_WrongMark_init => k_is)
    (case c_WrongMark_init => k_is)
    (case k_WrongMark_init => k_is)
    (case lc_WrongMark_init => k_is)
    (case lv_WrongMark_init => k_is)
    (case v2_WrongMark_init => rfl)
    (case fe_WrongMark_init => first | rfl | decide +kernel)
    (case mr_WrongMark => k_is)
    (case sv_WrongMark => k_is)
    (case sm_WrongMark => first | ks_is | k_is)
    (case op_WrongMark => k_is)
    (case tp_WrongMark => decide +kernel)
    (case n_WrongMark_mark => k_is)
    (case e_UnknownName_WrongMark => k_is)
    (case e_UnknownName_TooMany => k_is)
    (case e_UnknownName_UnknownName => k_is)
    (case e_UnknownName_OutOfRange => k_is)
    (case e_TooMany_WrongMark => k_is)
    (case e_TooMany_TooMany => k_is)
    (case e_TooMany_UnknownName => k_is)
    (case e_TooMany_OutOfRange => k_is)
    (case e_OutOfRange_WrongMark => k_is)
    (case e_OutOfRange_TooMany => k_is)
    (case e_OutOfRange_UnknownName => k_is)
    (case e_OutOfRange_OutOfRange => k_is)
    (case e_WrongMark_WrongMark => k_is)
    (case e_WrongMark_TooMany => k_is)
    (case e_WrongMark_UnknownName => k_is)
    (case e_WrongMark_OutOfRange => k_is)
    (case z_super => k_is)
    (case z_tuple => k_is)
    (case z_list => k_is)
    (case z_any => k_is)
    (case z_len => k_is)
    (case z_zip => k_is)
    (case z_min => k_is)
    (case z_enumerate => k_is)
    (case z_range => k_is)
    (case z_all => k_is)
    (case z_max => k_is)
    (case z_sorted => k_is)
    (case z_int => k_is)
    (case z_abs => k_is)
    (case z_set => k_is)
    (case z_dict => k_is)
    (case z_repr => k_is)
    (case n_MOST_UNKNOWNS => k_is)
    (case r_MOST_UNKNOWNS => first | exact ⟨_, rfl⟩ | rfl)
#print axioms PySem.Challenge.cw_halftruths_k36_order_values_holds
