import PyProof.Rows.All
import Wide.All
import OpenK.AllK
import Wide.FinOn
import HandS.Base
import HandS.Call
import HandS.List
import HandS.Ends
import HandS.EndBits
import HandS.Words
import HandS.Wide
import HandS.Conv
import HandS.Style
import HandS.TupAny
import HandS.ForMost
import HandS.Zip
import HandS.Walk
import HandS.Evl
import PySem.Challenge.RW_halftruths_k01_sayings_counted
set_option Elab.async false
set_option linter.all false
set_option maxRecDepth 100000
set_option maxHeartbeats 2000000
/-! # defs whose callers stand under no guard: what repr of a tuple or a list wants -/
namespace Gd
open PySem PySem.Spec PyProof.Rows L2

/-- as FnOk, for callers under no guard -/
structure FnG (P : Program) (w : World) (K : PySem.W.Frag) (mg : Str → Option Value) (base : Heap) (CX : CXT)
    (k : Nat) (f : Addr) (fd : FuncData) (ps : List Str) (sp : Sp) : Prop where
  len : ∀ vs H Q E, sp vs H Q E → vs.length = ps.length
  run : ∀ (A : Around) (outer : List Env) (s : Shared) (H : Hp) (args : Args) (us : List Value) (vs : List V) (Q : VK) (E : XK),
    Room k A → A.guards = some [] → Env0 P w K mg base A outer s H → BindsTo s fd args (ps.zip us) → Vals vs us →
    sp vs H Q E → codeAny (model P w) A (.call (.ref f) args) (CR CX outer P w H s Q E) s

section
variable {P : Program} {w : World} {K : PySem.W.Frag} {mg : Str → Option Value} {base : Heap} {CX : CXT} {k : Nat} {f : Addr} {fd : FuncData}
  {ps : List Str} {sp : Sp}
theorem FnG.of (F : FnOk P w K mg base CX k f fd ps sp) : FnG P w K mg base CX k f fd ps sp :=
  ⟨F.len, fun A outer s H args us vs Q E hr _ => F.run A outer s H args us vs Q E hr⟩
end

section
variable {X : Cx} {CX : CXT} {k : Nat} {f : Addr} {fd : FuncData} {ps : List Str} {sp : Sp} {dvs : List V} {ds : List Value} {E : XK}
  {x : Str} {p pos : Pos} {e : Expr} {es : List Expr} {t : TA}
theorem runG {pins : List (Addr × Obj)} {σ : L2.St} {H : Hp} {s : Shared} {Q : VK} {us : List Value} {vs : List V}
    (F : FnG X.prog X.w X.K X.mg X.base CX k f fd ps sp) (hr : Room k X.A) (gd : X.A.guards = some []) (hb : Binds X.K fd ps ds)
    (hd : Vals dvs ds) (hx : Passes CX X E) (I : Inv X pins σ H s) (r : Vals vs us) (h : sp (vs ++ dvs) H Q E) :
    wpAny (model X.prog X.w) X.A (call (.ref f) us) (EP X pins σ Q) X.xe s := by
  have both : Vals (vs ++ dvs) (us ++ ds) := r.append hd
  have many : (us ++ ds).length = ps.length := both.length.symm.trans (F.len _ _ _ _ h)
  have bound := hb s us I.kIn many
  refine wpAny_call (codeAny_mono (F.run X.A X.stack s H ⟨us, []⟩ (us ++ ds) (vs ++ dvs) Q E hr gd I.env0 bound both h) ?_)
  rintro (e | fl) s' q
  · exact hx pins σ H s e s' I q
  · cases fl <;> first | exact I.after q | exact q.elim
/-- f(e, ..) -/
theorem pe_callG (F : FnG X.prog X.w X.K X.mg X.base CX k f fd ps sp) (hr : Room k X.A) (gd : X.A.guards = some []) (hg : Gl X x)
    (hm : X.mg x = some (.ref f)) (hk : PySem.W.keepIn X.K (.ref f) = true) (hb : Binds X.K fd ps ds) (hd : Vals dvs ds) (hx : Passes CX X E)
    (ha : PA X (e :: es) t) (hdb : (x == ("__debug__" : Str)) = false := by decide)
    (he : starEach (e :: es) X.env = (false, eval e X.env) :: starEach es X.env := by rfl)
    (hpl : (backTo pos (starEach es X.env)).any (·.1) = false := by rfl) :
    PE X (.Call (.Name x p) (e :: es) [] pos) (tCall sp dvs E t) := by
  constructor
  intro pins s σ H Q I h
  apply wpAny_Call_Name_kw
  apply ld_glob I hg hm _ hdb
  refine PySem.W.callWith_K (h₀ := X.base) I.ok.mod.kin hk (thn (ha.run pos pins s σ H _ I h) ?_) he hpl
  rintro us s1 ⟨vs, H1, I1, r, q⟩
  exact ⟨I1.kIn, runG F hr gd hb hd hx I1 r q⟩
end

section
variable {P : Program} {w : World} {K : PySem.W.Frag} {mg : Str → Option Value} {base : Heap}
/-- a def of the text by its body, where no guard stands around -/
theorem okG {x qual : Str} {st : Stmt} {f : Addr} {fd : FuncData} {N ps : List Str} {k : Nat} {sp : Sp} (F : Fun K x qual st f fd)
    (S : FnScope N ps (defScope st)) (len : ∀ vs H Q E, sp vs H Q E → vs.length = ps.length)
    (body : ∀ (cdv : Value) (A : Around) (outer : List Env) (s : Shared) (H : Hp) (vs : List V) (Q : VK) (E : XK),
      Room k (A.deeper (envOfC qual (defScope st) s.heap.objs.size f cdv)) →
      (A.deeper (envOfC qual (defScope st) s.heap.objs.size f cdv)).guards = some [] → sp vs H Q E →
      ∃ t, PSs (cxOf CX0 P w K mg base N qual (defScope st) f cdv A outer s H E).nox (defBody st) t ∧
        t { nx := fun _ H' => Q .non H', rt := Q } (start N vs) H) :
    FnG P w K mg base CX0 (k + 1) f fd ps sp := by
  obtain ⟨oc, od, kV, doc, pm, an, cdv, ct, osl, rfl, lk, code⟩ := F.ex
  constructor
  · exact len
  intro A outer s H args us vs Q E hr gd e0 hb r h
  have many := len _ _ _ _ h
  have KX : K.In s.heap := e0.mod.kin.keeps fun b o q => (e0.bs b o q).1
  have lim : s.heap.NoLimit := e0.mod.nolimit.keeps fun b o q => (e0.bs b o q).1
  have kinds : ∀ y ∈ ps.zip us, (defScope st).names.lookup y.1 = some .local ∨ ((defScope st).names.lookup y.1 = some .cell ∧
      ((cellsFrom (s.heap.objs.size + 1) (defScope st).names []).lookup y.1).isSome = true) := by
    rintro ⟨n, v⟩ hy
    rcases S.par n (List.of_mem_zip hy).1 with q | q
    · left; exact q
    · right; exact ⟨q, PySem.W.cellsFrom_some _ _ _ (.inl q)⟩
  refine codeAny_call_function hr.depth (KX _ _ lk) rfl S.co S.gen rfl (PySem.W.codeRec_of KX code) (hb _ _ _ _ ?_)
  refine wpAny_newFunctionEnv_cells S.kind kinds ?_
  rintro env rfl s1 x
  refine ⟨lim.keeps x.toInCall.keep, codeAny_func ?_⟩
  obtain ⟨t, ht, q⟩ := body cdv A outer s H vs Q E (hr.deeper _) (show (A.deeper _).guards = some [] from gd) h
  have I : Inv (cxOf CX0 P w K mg base N qual (defScope st) f cdv A outer s H E) [] (start N vs) H s1 := inv_start S hr.hd e0 many r x
  refine wpAny_mono (ht.nox.run [] s1 (start N vs) H _ I q) ?_ fun e s' z => z
  rintro fl s' z
  cases fl with
  | ret u =>
    obtain ⟨v, σ', H', J, rv, q⟩ := z
    exact ⟨v, H', J.os, J.bare, J.base, J.hok, rv, q⟩
  | next =>
    obtain ⟨σ', H', J, q⟩ := z
    exact ⟨V.non, H', J.os, J.bare, J.base, J.hok, rfl, q⟩
  | brk => obtain ⟨_, _, _, q⟩ := z; exact q.elim
  | cont => obtain ⟨_, _, _, q⟩ := z; exact q.elim
end

/-! ## the end: the law is called where no guard stands -/
section
open Att
theorem law_callG {P : Program} {w : World} {K : PySem.W.Frag} {mg mb : Str → Option Value} {k : Nat} {fa a : Addr} {fd : FuncData} {x : Str}
    {sp : Sp} {s : Shared} {vs : List Value} {ns : List Int}
    (KX : K.In s.heap) (hns : s.heap.Ns mainGlobals mg) (hb : s.heap.Ns builtinsNs mb) (hbb : ∀ x : Str, x ≠ "__name__" → mb x = bootBuiltins x)
    (hlim : s.heap.NoLimit) (hg : s.gens = #[]) (ha : s.heap.get? a = some { cls := .type "list", data := .seq vs.toArray })
    (hi : IntsAre vs ns) (hl : ns.length ≤ sizeLine) (hr : Room k callerA)
    (F : ∀ base : Heap, K.In base → base.Ns mainGlobals mg → FnG P w K mg base CX0 k fa fd [x] sp)
    (hbind : ∀ (s : Shared) (u : Value), BindsTo s fd ⟨[u], []⟩ [(x, u)])
    (hsp : ∀ H : Hp, Only H → SqL K H a (ns.map V.int) → sp [.ref a] H (fun v _ => v = .bl true) fun _ _ _ => False) :
    codeAny (model P w) callerA (.call (.ref fa) ⟨[.ref a], []⟩)
      (fun r s' => r = .ok (.ret (.bool true)) ∧ OldK s.heap s'.heap ∧ s'.os = s.os ∧ AllBare s'.gens) s := by
  -- over an abstract heap that knows at most the script
  have core : ∀ H : Hp, Only H → SqL K H a (ns.map V.int) → HOk P w H s.heap → (∀ b, H b ≠ none → b = a) → (H a ≠ none → K.lookup a = none) →
      codeAny (model P w) callerA (.call (.ref fa) ⟨[.ref a], []⟩)
        (fun r s' => r = .ok (.ret (.bool true)) ∧ OldK s.heap s'.heap ∧ s'.os = s.os ∧ AllBare s'.gens) s := by
    intro H only hS ok hA hK
    have free : ∀ {b : Addr} {o : Obj} {es : Array DictEntry} {ep : Nat}, s.heap.get? b = some o → o.data = .dict es ep → H b = none := by
      intro b o es ep q d
      cases z : H b with
      | none => rfl
      | some u =>
        obtain rfl : b = a := hA b (by rw [z]; exact fun y => nomatch y)
        obtain rfl : _ = o := Option.some.inj (ha.symm.trans q)
        exact nomatch d
    have ns_ : ∀ {b : Addr} {m : Str → Option Value}, s.heap.Ns b m → (hidT s.heap H).Ns b m := by
      rintro b m ⟨o, es, ep, q, d, z⟩
      exact ⟨o, es, ep, hidT_get q (free q d), d, z⟩
    have KB : K.In (hidT s.heap H) := by
      intro b o q
      refine hidT_get (KX b o q) ?_
      cases z : H b with
      | none => rfl
      | some u =>
        obtain rfl : b = a := hA b (by rw [z]; exact fun y => nomatch y)
        rw [hK (by rw [z]; exact fun y => nomatch y)] at q
        cases q
    obtain ⟨mc, l1, l2⟩ := hlim
    have M : Mod K mg (hidT s.heap H) := ⟨KB, ns_ hns, ⟨mb, ns_ hb, hbb⟩, mc, ns_ l1, l2⟩
    have e0 : Env0 P w K mg (hidT s.heap H) callerA [] s H :=
      ⟨rfl, M, fun b o q => of_hidT q, Nat.le_of_eq (hidT_size _ _), trivial, (fun b z => by cases z), ok, .of_eq hg⟩
    refine codeAny_mono ((F _ KB (ns_ hns)).run callerA [] s H ⟨[.ref a], []⟩ [.ref a] [.ref a] _ _ hr rfl e0 (hbind s (.ref a))
      (.cons rfl .nil) (hsp H only hS)) ?_
    rintro (e | fl) s' h
    · exact (show False from h).elim
    · cases fl with
      | next => exact (show False from h).elim
      | brk => exact (show False from h).elim
      | cont => exact (show False from h).elim
      | ret u =>
        obtain ⟨v, H', os, bare, un, ok', rel, q⟩ := h
        obtain rfl : v = .bl true := q
        obtain rfl : u = Value.bool true := rel
        refine ⟨rfl, OldK.of_keep ?_, os, bare⟩
        intro b o q
        cases z : H b with
        | none => exact un.keep b o q z (fun y => by cases y) (fun y => by cases y)
        | some u =>
          rcases only b with y | ⟨ob, xs, y⟩
          · rw [z] at y; cases y
          · obtain ⟨q1, _⟩ := ok b _ y
            obtain ⟨q2, _⟩ := ok' b _ (un.frzs b ob _ y)
            rw [q] at q1
            cases q1
            exact q2
  have rv := vals_ints hi
  have many := hi.length
  cases hk : K.lookup a with
  | some o =>
    have q := KX a o hk
    rw [ha] at q
    cases q
    refine core (fun _ => none) (fun _ => .inl rfl) (.inr ⟨_, vs.toArray, _, hk, rfl, rfl, rfl, ?_, by simpa using rv⟩) (fun b u z => by cases z) (fun b z => absurd rfl z)
      fun z => absurd rfl z
    rw [List.size_toArray, many]
    exact hl
  | none =>
    have at_a : ∀ {b : Addr} {u : HO}, (if b = a then some (HO.frz { cls := .type "list", data := .seq vs.toArray } (.lst (ns.map V.int))) else none) = some u →
        b = a ∧ u = .frz { cls := .type "list", data := .seq vs.toArray } (.lst (ns.map V.int)) := by
      intro b u z
      by_cases e : b = a
      · rw [if_pos e] at z
        exact ⟨e, (Option.some.inj z).symm⟩
      · rw [if_neg e] at z
        cases z
    refine core (fun b => if b = a then some (.frz { cls := .type "list", data := .seq vs.toArray } (.lst (ns.map V.int))) else none) ?_
      (.inl (.inr ⟨{ cls := .type "list", data := .seq vs.toArray }, if_pos rfl⟩)) ?_ ?_ fun _ => hk
    · intro b
      by_cases e : b = a
      · exact .inr ⟨_, _, if_pos e⟩
      · exact .inl (if_neg e)
    · intro b u z
      obtain ⟨rfl, rfl⟩ := at_a z
      exact ⟨ha, by rw [List.length_map]; exact hl, vs, _, rv, ha⟩
    · intro b z
      by_cases e : b = a
      · exact e
      · exact absurd (if_neg e) z
theorem walkG {l : PySem.W.OpenLaw} {n k : Nat} {q : Program} {loose : List Str} {XP : (Str → Option Value) → Heap → Prop} {YP : World → Heap → Prop}
    {d : DefRec} {K : Params → PySem.W.Frag} {sp : World → Sp} {x : Str}
    (hn : l.most = some n) (hn2 : n ≤ sizeLine) (hdf : d.params.defaults = []) (hr : Room k callerA)
    (hY : ∀ (w : World) (h : Heap), YP w h → (K w.params).In h)
    (F : ∀ (w : World) (mg : Str → Option Value) (fa : Addr) (h : Heap), (K w.params).In h → h.Ns mainGlobals mg → mg d.name = some (.ref fa) →
      ∃ fd : FuncData, (∀ (s : Shared) (u : Value), BindsTo s fd ⟨[u], []⟩ [(x, u)]) ∧
        ∀ base : Heap, (K w.params).In base → base.Ns mainGlobals mg → FnG l.prog w (K w.params) mg base CX0 k fa fd [x] (sp w))
    (hsp : ∀ (w : World) (H : Hp) (a : Addr) (ns : List Int), ns.length ≤ n → (∀ z ∈ ns, Builtin.Int.intBits z ≤ 1048576) → Only H →
      SqL (K w.params) H a (ns.map V.int) → sp w [.ref a] H (fun v _ => v = .bl true) fun _ _ _ => False) :
    PySem.W.WalkO q loose XP YP l.row.toRowW d [] (fun f vs => PySem.call f vs) := by
  refine attach_callB hn hdf ?_
  intro w s₀ s₁ mg mb fa o pm cd doc a vs ns G Y ho hd hcd hmg hobj hints hlen hbits hg
  obtain ⟨fd, hb, hF⟩ := F w mg fa _ (hY w _ Y) G.T.g hmg
  refine law_callG (hY w _ Y) G.T.g G.T.b G.T.builtins G.T.nolimit hg hobj hints (Nat.le_trans hlen hn2) hr hF hb ?_
  intro H only hS
  exact hsp w H a ns hlen hbits only hS
end

/-! ## repr of data -/
section
variable {X : Cx}
def rRepr (K : PySem.W.Frag) : List V → Hp → VK → Prop := fun vs H Q => ∃ v d, vs = [v] ∧ Dp K H v d ∧ d.showable = true ∧ d.hasDict = false ∧
  d.depth ≤ 150 ∧ d.shown.length ≤ sizeLine ∧ Q (.str d.shown) H
theorem call_reprD {k : Nat} (gd : X.A.guards = some []) (hr : Room k X.A) : CallR X (.builtin "repr") (rRepr X.K) := by
  intro pins s σ H vs us Q I r h
  obtain ⟨v, d, rfl, hd, sh, nd, dp, sz, q⟩ := h
  obtain ⟨u, rfl, rv⟩ : ∃ u, us = [u] ∧ RelV v u := by
    cases r with
    | cons a b =>
      cases b
      exact ⟨_, rfl, a⟩
  obtain ⟨as, rd⟩ := Dp.reads I d v u hd rv
  have room := hr.un
  have fin : ∀ h' t tk, (∀ b o, s.heap.get? b = some o → h'.get? b = some o) → EP X pins σ Q (.str d.shown t) { s with heap := h', toks := tk } := fun h' t tk keep =>
    ⟨.str d.shown, H, I.kept keep, ⟨t, rfl⟩, q⟩
  have nodict : d.hasDict = true → sysModules ∉ as := fun z => by rw [nd] at z; cases z
  by_cases hu : ∃ a, u = .ref a
  · obtain ⟨a, rfl⟩ := hu
    exact repr_of_reads' rd sh nodict gd (by omega) (fun _ _ e => e) fin sz
  · cases hd with
    | non =>
      cases rv
      refine PySem.P.repr_of_none ?_
      simp only [PyData.shown] at fin
      exact fin s.heap _ _ fun _ _ e => e
    | bl b =>
      cases rv
      refine PySem.P.repr_of_bool ?_
      simp only [PyData.shown] at fin
      exact fin s.heap _ _ fun _ _ e => e
    | int i =>
      obtain ⟨t, rfl⟩ := rv
      refine PySem.P.repr_of_int (by simpa [PyData.showable] using sh) ?_
      simp only [PyData.shown] at fin
      exact fin s.heap _ _ fun _ _ e => e
    | str x =>
      obtain ⟨t, rfl⟩ := rv
      refine PySem.P.repr_of_str ?_ (by simpa only [PyData.shown] using sz)
      simp only [PyData.shown] at fin
      exact fin s.heap _ _ fun _ _ e => e
    | lst _ _ => exact absurd ⟨_, rv⟩ hu
    | tup _ _ => exact absurd ⟨_, rv⟩ hu
end
end Gd

/-! # t[::-1] of a tuple, xs.extend(t), products of great ints -/
namespace Gd
open PySem PySem.Spec PyProof.Rows L2 HT

section
variable {prog : Program} {w : World} {A : Around} {E : Value → Shared → Prop} {s : Shared}
theorem adjust_back (n : Nat) : Builtin.Slice.sliceAdjust none none (-1) (n : Int) = ((n : Int) - 1, -1) := rfl
theorem places_back (n : Nat) : Builtin.Slice.slicePlaces ((n : Int) - 1) (-1) (-1) = n := by
  unfold Builtin.Slice.slicePlaces
  rw [if_neg (by decide)]
  by_cases h : 0 < n
  · rw [if_pos (show (n : Int) - 1 > -1 by omega)]
    show (((n : Int) - 1 - (-1) - 1) / 1 + 1).toNat = n
    rw [Int.ediv_one]
    omega
  · rw [if_neg (show ¬ (n : Int) - 1 > -1 by omega)]
    omega
theorem pick_back (xs : Array Value) : ((List.range xs.size).filterMap fun (k : Nat) => xs[((xs.size : Int) - 1 + (k : Int) * (-1)).toNat]?).toArray = xs.toList.reverse.toArray := by
  congr 1
  have e : ∀ l : List Nat, (∀ k ∈ l, k < xs.size) → (l.filterMap fun (k : Nat) => xs[((xs.size : Int) - 1 + (k : Int) * (-1)).toNat]?) = l.filterMap fun k => xs.toList.reverse[k]? := by
    intro l hl
    induction l with
    | nil => rfl
    | cons k r ih =>
      have hk := hl k List.mem_cons_self
      have e1 : ((xs.size : Int) - 1 + (k : Int) * (-1)).toNat = xs.size - 1 - k := by omega
      have e2 : xs[((xs.size : Int) - 1 + (k : Int) * (-1)).toNat]? = xs.toList.reverse[k]? := by
        rw [e1, List.getElem?_reverse (by simpa using hk)]
        simp
      rw [List.filterMap_cons, List.filterMap_cons, e2, ih fun j hj => hl j (List.mem_cons_of_mem _ hj)]
  rw [e _ fun k hk => List.mem_range.mp hk]
  have all : ∀ ys : List Value, ((List.range ys.length).filterMap fun k => ys[k]?) = ys := by
    intro ys
    induction ys with
    | nil => rfl
    | cons y r ih =>
      rw [List.length_cons, List.range_succ_eq_map, List.filterMap_cons]
      show y :: List.filterMap _ (List.map Nat.succ (List.range r.length)) = y :: r
      rw [List.filterMap_map]
      exact congrArg (y :: ·) ih
  have q := all xs.toList.reverse
  rw [List.length_reverse, Array.length_toList] at q
  exact q
theorem applied_back {sl : Addr} {vs : Value} {n : Nat} {Q : Int × Int × Nat → Shared → Prop} (hs : s.heap.IsSliceOf sl .none .none vs) (ps : IsPart vs (some (-1)))
    (h : Q ((n : Int) - 1, -1, n) s) : wpAny (model prog w) A (Builtin.Slice.sliceApplied (.ref sl) (pure (n : Int))) Q E s := by
  obtain ⟨os, hos, hcs, hds⟩ := id hs
  unfold Builtin.Slice.sliceApplied Builtin.Slice.sliceFields
  refine wpAny_bind (wpAny_bind (wpAny_field hos hds (x := .none) rfl ?_))
  refine wpAny_bind (wpAny_field hos hds (x := .none) rfl ?_)
  refine wpAny_bind (wpAny_field hos hds (x := vs) rfl ?_)
  refine wpAny_pure ?_
  refine wpAny_bind (slicePart_ ps ?_)
  show wpAny _ _ (if ((-1 : Int) == 0) = true then _ else _) _ _ s
  rw [if_neg (by decide)]
  refine wpAny_bind (slicePart_none (wpAny_bind (slicePart_none (wpAny_bind (wpAny_pure ?_)))))
  show wpAny _ _ (pure ((n : Int) - 1, (-1 : Int), Builtin.Slice.slicePlaces ((n : Int) - 1) (-1) (-1))) _ _ s
  rw [places_back]
  exact wpAny_pure h
theorem tuple_back {t sl : Addr} {items : Array Value} {vs : Value} {Q : Value → Shared → Prop} (ht : IsTup s.heap t items) (hs : s.heap.IsSliceOf sl .none .none vs)
    (ps : IsPart vs (some (-1))) (hsz : items.size ≤ sizeLine)
    (h : Q (.ref s.heap.objs.size) { s with heap := s.heap.push { cls := .type "tuple", data := .seq items.toList.reverse.toArray } }) :
    wpAny (model prog w) A (getItem (.ref t) (.ref sl)) Q E s := by
  have fit : sizeOk (.seq items.toList.reverse.toArray) := by
    show items.toList.reverse.toArray.size ≤ sizeLine
    simpa using hsz
  obtain ⟨os, hos, hcs, hds⟩ := id hs
  have hTs : s.TypeIs (.ref sl) "slice" := ⟨os, hos, hcs⟩
  unfold getItem
  try with_reducible refine wpAny_holding ?_
  first | refine wpAny_bind (wpAny_pure ?_) | skip
  refine wpAny_bind (wpAny_sequenceKey ht.typeIs (by decide) ?_)
  refine wpAny_bind (wpAny_callSpecial?_slot (name := Str.ofString "__getitem__") ht.typeIs slot_tuple_getitem
    (wpAny_call_entry slot_tuple_getitem ht.typeIs entry_tuple_getitem ?_ (args_tuple_getitem _ _)))
  show wpAny _ _ (Builtin.Tuple.tupleItemsOf (.ref t) >>= _) _ _ s
  refine wpAny_bind (tupleItemsOf_ ht (wpAny_bind (wpAny_typeOf hTs ?_)))
  rw [if_pos (by decide)]
  refine wpAny_bind (applied_back hs ps ?_)
  have no : ¬ ((((items.size : Int) - 1) == 0 && (-1 : Int) == 1 && items.size == items.size) = true) := by
    rw [show ((-1 : Int) == 1) = false from rfl, Bool.and_false, Bool.false_and]
    exact Bool.false_ne_true
  show wpAny _ _ (if (((items.size : Int) - 1) == 0 && (-1 : Int) == 1 && items.size == items.size) = true then _ else _) _ _ s
  rw [if_neg no, pick_back]
  first
    | exact wpAny_bind (m := Builtin.Tuple.tupleExact _) (wpAny_newObj_type (wpAny_pure ⟨_, rfl, wpAny_pure h⟩) fit)
    | exact wpAny_bind (wpAny_bind (m := Builtin.Tuple.tupleExact _) (wpAny_newObj_type (wpAny_pure (wpAny_pure ⟨_, rfl, wpAny_pure h⟩)) fit))
    | exact wpAny_bind (wpAny_bind (m := Builtin.Tuple.tupleExact _) (wpAny_newObj_type (wpAny_pure ⟨_, rfl, wpAny_pure h⟩) fit))
end
section
variable {X : Cx}
def tRevT (K : PySem.W.Frag) (te : TE) : TE := fun σ H Q => te σ H fun x H1 => ∃ a xs, x = .ref a ∧ SqT K H1 a xs ∧ ∀ p, H1 p = none → Q (.ref p) (upd H1 p (.tup xs.reverse))
theorem pe_revT {e : Expr} {te : TE} {k : Nat} {p1 p2 p3 pos : Pos} (he : PE X e te) :
    PE X (.Subscript e (.Slice none none (some (.UnaryOp .USub (.Constant (.int 1) k p1) p2)) p3) pos) (tRevT X.K te) := by
  constructor
  intro pins s σ H Q I h
  refine Subscript_ (thn (he.run pins s σ H _ I h) ?_)
  rintro v s1 ⟨x, H1, I1, r1, a, xs, rfl, hx, q⟩
  cases r1
  have step : PO X (some (.UnaryOp .USub (.Constant (.int 1) k p1) p2)) (tPart (tUn (rU fun i => .int (-i)) (tC (.int 1)))) := po_some (pe_un un_neg pe_int)
  refine wpAny_Slice (wpAny_of_eq (a := .none) (by first | exact evalPart_none .. | rfl) ?_)
  refine wpAny_of_eq (a := .none) (by first | exact evalPart_none .. | rfl) ?_
  refine thn (step.run pins s1 σ H1 (fun o H4 => o = some (-1) ∧ H4 = H1) I1 ⟨1, rfl, -1, rfl, rfl, rfl⟩) ?_
  rintro vs s4 ⟨o, H4, I4, ps, rfl, rfl⟩
  have I5 : Inv X pins σ H4 { s4 with heap := s4.heap.push { cls := .type "slice", data := .fields #[.none, .none, vs] } } :=
    I4.kept (t' := s4.toks) fun b ob q => Heap.get?_push_of_some _ q
  obtain ⟨its, r, ht, hz⟩ := I5.tuple hx
  have many := r.length
  show wpAny (model X.prog X.w) X.A (subscriptTail e (.Slice none none (some (.UnaryOp .USub (.Constant (.int 1) k p1) p2)) p3) (.ref a) (.ref s4.heap.objs.size))
    (EP X pins σ Q) X.xe { s4 with heap := s4.heap.push { cls := .type "slice", data := .fields #[.none, .none, vs] } }
  refine tail_any (ops := [.ref a, .ref s4.heap.objs.size]) ht.typeIs slot_tuple_getitem.lookup ?_ (by with_unfolding_all rfl)
  refine tuple_back ht (Heap.IsSliceOf.new _ _ _ vs) ps (by rw [List.size_toArray]; omega) ?_
  refine ⟨.ref _, _, I5.laid (t' := s4.toks) (o := .tup xs.reverse) (fun b ob q => Heap.get?_push_of_some _ q) (Nat.le_refl _) ?_, rfl, q _ (I5.hok.fresh (Nat.le_refl _))⟩
  exact ⟨by rw [List.length_reverse]; exact hz, its.reverse, r.reverse, ⟨_, Heap.get?_push_size _ rfl, rfl, _, rfl⟩⟩

set_option maxRecDepth 8000 in
theorem extend_tup (l : Addr) (items : Array Value) (n : Nat) (b : Addr) (items2 : Array Value) (n2 : Nat) (dd : Option Addr) (sl : Array (Option Value))
    (short : ¬(!items.isEmpty && Builtin.List.listTooLong (items.size + items2.size)) = true) (fit : items.size ≤ sizeLine)
    (fit2 : items.size + items2.size ≤ sizeLine + 1) :
    Meets (Builtin.«list.extend» ⟨[.ref l, .ref b], []⟩) (fun _ R s => s.heap.get? l = some { cls := .type "list", dict := none, data := .seq items n, slots := #[] } ∧
      s.heap.get? b = some { cls := .type "tuple", dict := dd, data := .seq items2 n2, slots := sl } ∧
      R (.ok (.ret Value.none)) { s with heap := s.heap.update l (Obj.mapSeq fun x => x ++ items2), toks := s.toks }) := by
  refine .of_wp fun prog w A R s h => ?_
  obtain ⟨hp, g, d, tk, os⟩ := s
  obtain ⟨hl, hb, h⟩ := h
  have f2 := AutoSeq1.sub_tuple_tuple
  have f3 := AutoSeq1.sub_list_list
  have f4 := AutoSeq1.sub_tuple_list
  have f5 := AutoSeq1.sub_list_tuple
  have whole : (items ++ items2).size ≤ sizeLine + 1 := by rw [Array.size_append]; exact fit2
  wp_walk using (wpAny_updateSeq hl rfl (hz := fit) (_hz' := whole)), AutoSeq1.wpAny_loadPart' hl, AutoSeq1.wpAny_loadPart' hb
  exact ⟨_, rfl, h⟩
/-- xs.extend(t), t a tuple -/
def rExtT (K : PySem.W.Frag) : V → List V → Hp → VK → Prop := fun x vs H Q => ∃ l b xs zs, x = .ref l ∧ vs = [.ref b] ∧ H l = some (.lst xs) ∧ H b = some (.tup zs) ∧
  xs.length + zs.length ≤ sizeLine ∧ Q .non (upd H l (.lst (xs ++ zs)))
theorem mt_extT : MtM X "list.extend" (rExtT X.K) := by
  intro pins s σ H x vs v us Q I rx rv h
  obtain ⟨l, b, xs, zs, rfl, rfl, hH, hB, hz, q⟩ := h
  cases rx
  obtain ⟨u, rfl, ru⟩ := rv.one
  cases ru
  obtain ⟨z, its, n, r, hl, e⟩ := I.lstM hH
  obtain ⟨z2, its2, r2, ⟨ob, ho, hc, n2, hd⟩⟩ := I.hok b _ hB
  have r2l := r2.length
  have fit : its.toArray.size + its2.toArray.size ≤ sizeLine := by
    rw [List.size_toArray, List.size_toArray]
    have := r.length
    omega
  have short : ¬ (!its.toArray.isEmpty && Builtin.List.listTooLong (its.toArray.size + its2.toArray.size)) = true := by
    rw [notLongL fit, Bool.and_false]
    exact Bool.false_ne_true
  obtain ⟨cls, dd, data, sl⟩ := ob
  simp only at hc hd
  subst hc hd
  refine call_meets F.slot_list_extend ⟨_, e, rfl⟩ F.entry_list_extend (F.args_list_extend_2 _ _)
    (extend_tup l its.toArray n b its2.toArray n2 dd sl short (by rw [List.size_toArray]; omega) (by omega)) ⟨e, ho, ?_⟩
  refine ⟨.non, _, I.lset (its' := its ++ its2) hH e (by simp) (r.append r2) ?_, rfl, q⟩
  rw [List.length_append]
  omega
/-- products of two factors of together less than a hundred million bits -/
def CMulB (i j : Int) : Prop := i.natAbs.log2 + j.natAbs.log2 < 100000000
theorem bits_le (x : Int) : Builtin.Int.intBits x ≤ x.natAbs.log2 + 1 := by
  unfold Builtin.Int.intBits
  split <;> omega
theorem CMulB.ok {i j : Int} (h : CMulB i j) : IntMulOk i j := by
  have h1 := bits_le i
  have h2 := bits_le j
  unfold CMulB at h
  intro z
  have z2 := (Bool.and_eq_true _ _ ▸ z : _ ∧ _).2
  unfold Builtin.Int.intTooBig at z2
  have z3 := of_decide_eq_true z2
  rw [show bitsLine = 134217728 by decide] at z3
  omega
theorem op_mulB : OpR X (binaryOp .Mult) (rI CMulB fun i j => .int (i * j)) := opI fun _ _ _ _ _ _ _ hc q => mul_int q hc.ok
end
end Gd

/-! # heaps but for one object; the state from which a law draws -/
namespace Gd
open PySem PySem.Spec PyProof.Rows L2

/-- all that was tracked is as it was, but for what stands at m -/
def Kp (m : Addr) (H H' : Hp) : Prop := ∀ b o, b ≠ m → H b = some o → H' b = some o
section
variable {H H1 H2 : Hp} {m p q : Addr} {o u : HO} {xs : List V}
theorem _root_.L2.Same.seqT {K : PySem.W.Frag} {H H' : Hp} {a : Addr} {xs : List V} (e : Same H H') (h : SqT K H a xs) : SqT K H' a xs := by
  rcases h with (h | ⟨o, h⟩) | h
  · exact .inl (.inl (e _ _ h))
  · exact .inl (.inr ⟨o, e _ _ h⟩)
  · exact .inr h
theorem Kp.refl : Kp m H H := fun _ _ _ h => h
theorem Kp.trans (a : Kp m H H1) (b : Kp m H1 H2) : Kp m H H2 := fun c o h z => b c o h (a c o h z)
theorem Kp.of (s : Same H H1) : Kp m H H1 := fun c o _ z => s c o z
theorem _root_.L2.Same.new (h : H p = none) (o : HO) : Same H (upd H p o) := fun b u e => by
  rw [upd_ne (ne_of_none e h)]
  exact e
theorem Kp.new (h : H p = none) (o : HO) : Kp m H (upd H p o) := Kp.of (Same.new h o)
theorem Kp.at (o : HO) : Kp m H (upd H m o) := fun b u h e => by
  rw [upd_ne h]
  exact e
theorem Kp.put (k : Kp m H H1) (o : HO) : Kp m H (upd H1 m o) := k.trans (Kp.at o)
theorem Kp.get (k : Kp m H H1) (h : H p = some o) (hm : H m = some u) (d : o ≠ u) : H1 p = some o := k p o (ne_of h hm d) h
/-- a new object changed after it was made -/
theorem _root_.L2.Same.put (s : Same H H1) (h : H p = none) (o : HO) : Same H (upd H1 p o) := fun b u e => by
  rw [upd_ne (ne_of_none e h)]
  exact s b u e
theorem Kp.put' (s : Kp m H H1) (h : H p = none) (o : HO) : Kp m H (upd H1 p o) := fun b u hb e => by
  rw [upd_ne (ne_of_none e h)]
  exact s b u hb e
theorem Kp.free (k : Kp m H H1) (h : H1 p = none) (hm : p ≠ m) : H p = none := by
  cases z : H p with
  | none => rfl
  | some o =>
    rw [k p o hm z] at h
    cases h
theorem ne_new (h : H p = some o) (n : H q = none) : p ≠ q := ne_of_none h n
end

/-! ## the state -/
def mk (l s : Int) (c : Addr) (p : Int) : List (Key × V) :=
  [(.inr "left", .int l), (.inr "seed", .int s), (.inr "cells", .ref c), (.inr "spot", .int p)]
section
variable {H : Hp} {m c : Addr} {l s p l' p' : Int}
theorem val_left : valV (mk l s c p) (.inr "left") = some (.int l) := rfl
theorem val_seed : valV (mk l s c p) (.inr "seed") = some (.int s) := rfl
theorem val_cells : valV (mk l s c p) (.inr "cells") = some (.ref c) := rfl
theorem val_spot : valV (mk l s c p) (.inr "spot") = some (.int p) := rfl
theorem put_left : putK (mk l s c p) (.inr "left") (.int l') = mk l' s c p := rfl
theorem put_spot : putK (mk l s c p) (.inr "spot") (.int p') = mk l s c p' := rfl
theorem merge_mk : mergeK [] (mk l s c p) = mk l s c p := rfl
end
end Gd

/-! # readings, step by step -/
namespace Gd
open PySem PySem.Spec PyProof.Rows L2
section
variable {K : PySem.W.Frag} {σ : L2.St} {H : Hp} {Q : VK} {QB : Bool → Hp → Prop} {QA : List V → Hp → Prop} {QO : Option Int → Hp → Prop} {QS : L2.St → Hp → Prop}
  {D : Ends} {te ta tb tc td ty tv tl th : TE} {tt uu : TT} {t u : TS} {ts tr : TA} {g : TG} {v x y : V} {a p : Addr} {xs ys : List V} {i j : Int} {n k : Nat} {b : Bool} {c : Prop} [Decidable c]
theorem rd_seq (h : t { D with nx := u D } σ H) : tSeq t u D σ H := h
theorem rd_next (h : D.nx σ H) : tNext D σ H := h
theorem rd_brk (h : D.bk σ H) : tBreak D σ H := h
theorem rd_cnt (h : D.ct σ H) : tCont D σ H := h
theorem rd_asg (h : te σ H fun v H1 => D.nx (σ.set n (some v)) H1) : tAsg te (gName n) D σ H := h
theorem rd_drop (h : te σ H fun _ H1 => D.nx σ H1) : tDrop te D σ H := h
theorem rd_ret (h : te σ H fun v H1 => D.rt v H1) : tRet te D σ H := h
theorem rd_retN (h : D.rt .non H) : tRetN D σ H := h
theorem rd_ifs (h : tt σ H fun b H1 => if b = true then t D σ H1 else u D σ H1) : tIfS tt t u D σ H := h
theorem rd_par (h : ts σ H fun vs H1 => ∃ v w, vs = [v, w] ∧ D.nx ((σ.set n (some v)).set k (some w)) H1) : tPar n k ts D σ H := h
theorem rd_pair {P : V → V → Prop} (h : P x y) : ∃ v w, [x, y] = [v, w] ∧ P v w := ⟨x, y, rfl, h⟩
theorem rd_var (e : σ[n]? = some (some v)) (h : Q v H) : tVar n σ H Q := ⟨v, e, h⟩
theorem rd_c (h : Q v H) : tC v σ H Q := h
theorem rd_op {r : R2} (h : ta σ H fun x H1 => tb σ H1 fun y H2 => r x y H2 Q) : tOp r ta tb σ H Q := h
theorem rd_un {r : V → Hp → VK → Prop} (h : ta σ H fun x H1 => r x H1 Q) : tUn r ta σ H Q := h
theorem rd_cb {r : List V → Hp → VK → Prop} (h : ts σ H fun vs H1 => r vs H1 Q) : tCB r ts σ H Q := h
theorem rd_call {sp : Sp} {dvs : List V} {E : XK} (h : ts σ H fun vs H1 => sp (vs ++ dvs) H1 Q E) : tCall sp dvs E ts σ H Q := h
theorem rd_nil (h : QA [] H) : tNil σ H QA := h
theorem rd_cons (h : ta σ H fun x H1 => tr σ H1 fun xs H2 => QA (x :: xs) H2) : tCons ta tr σ H QA := h
theorem rd_tup (h : ts σ H fun xs H1 => xs.length ≤ sizeLine ∧ ∀ p, H1 p = none → Q (.ref p) (upd H1 p (.tup xs))) : tTup ts σ H Q := h
theorem rd_lst (h : ts σ H fun xs H1 => xs.length ≤ sizeLine ∧ ∀ p, H1 p = none → Q (.ref p) (upd H1 p (.lst xs))) : tLst ts σ H Q := h
theorem rd_if (h : tt σ H fun c H1 => if c = true then ta σ H1 Q else tb σ H1 Q) : tIf tt ta tb σ H Q := h
theorem rd_test (h : te σ H fun x H1 => ∃ k, x = .bl k ∧ QB k H1) : tTest te σ H QB := h
theorem rd_tb (h : te σ H fun x H1 => ∃ k, x = .bl k ∧ QB k H1) : tB te σ H QB := h
theorem rd_bl {P : Bool → Prop} (h : P b) : ∃ k, V.bl b = .bl k ∧ P k := ⟨b, rfl, h⟩
theorem rd_and (h : tt σ H fun c H1 => if c = true then uu σ H1 QB else QB false H1) : tAnd tt uu σ H QB := h
theorem rd_or (h : tt σ H fun c H1 => if c = true then QB true H1 else uu σ H1 QB) : tOr tt uu σ H QB := h
theorem rd_not (h : tt σ H fun c H1 => QB (!c) H1) : tNot tt σ H QB := h
theorem rd_andV (h : ta σ H fun x H1 => ∃ c, x = .bl c ∧ if c = true then tb σ H1 Q else Q (.bl false) H1) : tAndV ta tb σ H Q := h
theorem rd_orV (h : ta σ H fun x H1 => ∃ c, x = .bl c ∧ if c = true then Q (.bl true) H1 else tb σ H1 Q) : tOrV ta tb σ H Q := h
theorem rd_notV (h : ta σ H fun x H1 => ∃ c, x = .bl c ∧ Q (.bl (!c)) H1) : tNotV ta σ H Q := h
theorem rd_sl {r : V → Option Int → Option Int → Hp → VK → Prop} {tl th : TO} (h : te σ H fun x H1 => tl σ H1 fun l H2 => th σ H2 fun u H3 => r x l u H3 Q) : tSl r te tl th σ H Q := h
theorem rd_nopart (h : QO none H) : tNoPart σ H QO := h
theorem rd_part (h : te σ H fun x H1 => ∃ i, x = .int i ∧ QO (some i) H1) : tPart te σ H QO := h
theorem rd_int {P : Int → Prop} (h : P i) : ∃ k, V.int i = .int k ∧ P k := ⟨i, rfl, h⟩
theorem rd_dget (h : td σ H fun x H1 => ty σ H1 fun y H2 => ∃ a v, x = .ref a ∧ DGet H2 a y (some v) ∧ Q v H2) : tDGet td ty σ H Q := h
theorem rd_dgetK {P : V → Prop} {kvs : List (Key × V)} {z : Str} (hm : H a = some (.dK kvs)) (hv : valV kvs (.inr z) = some v) (h : P v) :
    ∃ b w, V.ref a = .ref b ∧ DGet H b (.str z) (some w) ∧ P w := ⟨a, v, rfl, .inl ⟨kvs, .inr z, .inl hm, rfl, hv.symm⟩, h⟩
theorem rd_dput (h : tv σ H fun v H1 => td σ H1 fun x H2 => ty σ H2 fun y H3 => ∃ a H4, x = .ref a ∧ DPut H3 a y v H4 ∧ D.nx σ H4) : sDPut td ty tv D σ H := h
theorem rd_dputK {P : Hp → Prop} {kvs kvs' : List (Key × V)} {z : Str} (hm : H a = some (.dK kvs)) (hv : putK kvs (.inr z) v = kvs') (hl : kvs.length < 1000000) (h : P (upd H a (.dK kvs'))) :
    ∃ b H4, V.ref a = .ref b ∧ DPut H b (.str z) v H4 ∧ P H4 := ⟨a, _, rfl, .inl ⟨kvs, .inr z, hm, rfl, Nat.lt_of_lt_of_le hl (by decide), rfl⟩, by rw [hv]; exact h⟩
theorem rd_i0 {f : Int → Int → V} (h : Q (f i j) H) : rI0 f (.int i) (.int j) H Q := ⟨i, j, rfl, rfl, h⟩
theorem rd_i {C : Int → Int → Prop} {f : Int → Int → V} (hc : C i j) (h : Q (f i j) H) : rI C f (.int i) (.int j) H Q := ⟨i, j, rfl, rfl, hc, h⟩
theorem rd_u {f : Int → V} (h : Q (f i) H) : rU f (.int i) H Q := ⟨i, rfl, h⟩
theorem rd_eq (hs : scal x y = true) (h : Q (.bl (decide (x = y))) H) : rEq x y H Q := ⟨hs, h⟩
theorem rd_ne (hs : scal x y = true) (h : Q (.bl (!decide (x = y))) H) : rNe x y H Q := ⟨hs, h⟩
theorem rd_intI {A : Int → Prop} {B : Prop} (h : A i) : (∃ k, [V.int i] = [V.int k] ∧ A k) ∨ B := .inl ⟨i, rfl, h⟩
theorem rd_ixL (hs : SqL K H a xs) (hv : atI xs i = some v) (h : Q v H) : rIxL K (.ref a) (.int i) H Q := ⟨a, xs, i, v, rfl, rfl, hs, hv, h⟩
theorem rd_ixT (hs : SqT K H a xs) (hv : atI xs i = some v) (h : Q v H) : rIxT K (.ref a) (.int i) H Q := ⟨a, xs, i, v, rfl, rfl, hs, hv, h⟩
theorem rd_slL {lo hi : Option Int} (hs : SqL K H a xs) (h : ∀ p, H p = none → Q (.ref p) (upd H p (.lst (cutV xs lo hi)))) : rSlL K (.ref a) lo hi H Q := ⟨a, xs, rfl, hs, h⟩
theorem rd_cat (hl : H a = some (.lst xs)) (hb : H p = some (.lst ys)) (hz : xs.length + ys.length ≤ 1000000) (h : ∀ q, H q = none → Q (.ref q) (upd H q (.lst (xs ++ ys)))) :
    rCat (.ref a) (.ref p) H Q := ⟨a, p, xs, ys, rfl, rfl, hl, hb, Nat.le_trans hz (by decide), h⟩
theorem rd_len {A : List V → Prop} (hs : SqL K H a xs ∨ SqT K H a xs) (h : A xs) : ∃ p ys, [V.ref a] = [V.ref p] ∧ (SqL K H p ys ∨ SqT K H p ys) ∧ A ys := ⟨a, xs, rfl, hs, h⟩
theorem rd_true (h : c) {A B : Prop} (q : A) : if decide c = true then A else B := by rw [decide_eq_true h]; exact iteT q
theorem rd_false (h : ¬ c) {A B : Prop} (q : B) : if decide c = true then A else B := by rw [decide_eq_false h]; exact iteF q
/-- a test of which nothing is known: two ways -/
theorem rd_two {A B : Prop} (h1 : c → A) (h2 : ¬ c → B) : if decide c = true then A else B := by
  by_cases h : c
  · exact rd_true h (h1 h)
  · exact rd_false h (h2 h)
theorem sqL (h : H a = some (.lst xs)) : SqL K H a xs := .inl (.inl h)
theorem sqT (h : H a = some (.tup xs)) : SqT K H a xs := .inl (.inl h)
end
theorem atI_in {α : Type} {xs : List α} {i : Int} (h0 : 0 ≤ i) (h1 : i < (xs.length : Int)) : ∃ v, atI xs i = some v ∧ xs[i.toNat]? = some v ∧ v ∈ xs := by
  obtain ⟨j, rfl⟩ : ∃ j : Nat, i = (j : Int) := ⟨i.toNat, by omega⟩
  have hj : j < xs.length := by omega
  refine ⟨xs[j], atI_nat (List.getElem?_eq_getElem hj), ?_, List.getElem_mem hj⟩
  show xs[j]? = some xs[j]
  exact List.getElem?_eq_getElem hj
theorem atI_mod {α : Type} {xs : List α} (p : Int) (h : xs ≠ []) : ∃ v, atI xs (p % (xs.length : Int)) = some v ∧ v ∈ xs := by
  have h0 : 0 < xs.length := List.length_pos_iff.mpr h
  obtain ⟨v, e, _, m⟩ := atI_in (xs := xs) (Int.emod_nonneg p (b := (xs.length : Int)) (by omega)) (Int.emod_lt_of_pos p (by omega))
  exact ⟨v, e, m⟩
section
variable {X : Cx} (K : PySem.W.Frag)
/-- the rules that speak of the written part, with its name given -/
theorem ix_tupK (h : X.K = K := by rfl) : IxR X (rIxT K) := h ▸ ix_tup
theorem ix_listK (h : X.K = K := by rfl) : IxR X (rIxL K) := h ▸ ix_list
theorem in_seqK (h : X.K = K := by rfl) : OpR X (compareOp .In) (rIn K false) := h ▸ op_in_seq
theorem notIn_seqK (h : X.K = K := by rfl) : OpR X (compareOp .NotIn) (rIn K true) := h ▸ op_notIn_seq
theorem len_seqK (h : X.K = K := by rfl) : CallR X (.builtin "len") (fun xs H Q => ∃ p ys, xs = [.ref p] ∧ (SqL K H p ys ∨ SqT K H p ys) ∧ Q (.int ys.length) H) := h ▸ call_len_seq
theorem sl_listK (h : X.K = K := by rfl) : SlR X (rSlL K) := h ▸ sl_list
theorem sl_tupK (h : X.K = K := by rfl) : SlR X (rSlT K) := h ▸ sl_tup
theorem tuple_ofK (h : X.K = K := by rfl) : CallR X (.type "tuple") (fun xs H Q => ∃ p ys, xs = [.ref p] ∧ ((SqL K H p ys ∧ ∀ l, H l = none → Q (.ref l) (upd H l (.tup ys))) ∨ (SqT K H p ys ∧ Q (.ref p) H))) := h ▸ call_tuple_of
theorem list_ofK (h : X.K = K := by rfl) : CallR X (.type "list") (fun xs H Q => ∃ p ys, xs = [.ref p] ∧ (SqL K H p ys ∨ SqT K H p ys) ∧ ∀ l, H l = none → Q (.ref l) (upd H l (.lst ys))) := h ▸ call_list_of
theorem sumK (hc : X.calm = true := by rfl) (h : X.K = K := by rfl) : CallR X (.builtin "sum") (rSum K) := h ▸ cr_sum hc
theorem allK (hc : X.calm = true := by rfl) (h : X.K = K := by rfl) : CallR X (.builtin "all") (rAll K) := h ▸ cr_all hc
theorem eqDK (hu : X.A.units + 64 < cLine) (h : X.K = K := by rfl) : OpR X (compareOp .Eq) (rEqD K) := h ▸ op_eqD hu
theorem neDK (hu : X.A.units + 64 < cLine) (h : X.K = K := by rfl) : OpR X (compareOp .NotEq) (rNeD K) := h ▸ op_neD hu
theorem reprK {k : Nat} (gd : X.A.guards = some []) (hr : Room k X.A) (h : X.K = K := by rfl) : CallR X (.builtin "repr") (rRepr K) := h ▸ call_reprD gd hr
end
end Gd

/-! # loops and comprehensions -/
namespace Gd
open PySem PySem.Spec PyProof.Rows L2 RZ
section
variable {K : PySem.W.Frag} {σ : L2.St} {H H1 : Hp} {Q : VK} {D : Ends} {te tl : TE} {tt : TT} {tb : TS} {ts : TA} {wi : TI} {R : It → Hp → Prop} {g : TG} {vs : List Nat} {a b : Addr} {xs ys : List V} {j i1 i2 n : Nat}
theorem rd_for (h : wi σ H fun J H1 => ∃ W : Nat → Nat → L2.St → Hp → Prop, (∃ m, W 0 m σ H1) ∧ ∀ i m σ H, W i m σ H →
    (J.stop i H ∧ D.nx σ H) ∨ (J.go i H ∧ ∃ N : L2.St → Hp → Prop, (∀ σ' H', N σ' H' → ∃ m', m' < m ∧ W (i + 1) m' σ' H') ∧
      ∀ x H', J.yld i H x H' → g x σ H' fun σ2 H2 => tb { D with nx := N, ct := N, bk := D.nx } σ2 H2)) : tFor wi g tb D σ H := h
theorem rd_lc (h : wi σ H fun J H1 => ∀ D, H1 D = none → ∃ W : Nat → Nat → Hp → Prop, (∃ m, W 0 m (upd H1 D (.lst []))) ∧ ∀ i m H, W i m H →
    (J.stop i H ∧ Q (.ref D) H) ∨ (J.go i H ∧ ∃ Nx : Hp → Prop, (∀ H', Nx H' → ∃ m', m' < m ∧ W (i + 1) m' H') ∧
      ∀ x H', J.yld i H x H' → g x (wipe σ vs) H' fun σ2 H2 => wipe σ2 vs = wipe σ vs ∧ tt σ2 H2 fun b H3 =>
        if b = true then te σ2 H3 fun y H4 => ∃ acc, H4 D = some (.lst acc) ∧ acc.length < sizeLine ∧ Nx (upd H4 D (.lst (acc ++ [y]))) else Nx H3)) :
    tLc wi g tt te vs σ H Q := h
theorem rd_iL (h : tl σ H fun x H1 => ∃ a, x = .ref a ∧ (∃ xs, SqL K H1 a xs) ∧ R (Itl K a) H1) : iList K tl σ H R := h
theorem rd_iT (h : tl σ H fun x H1 => ∃ a, x = .ref a ∧ (∃ xs, SqT K H1 a xs) ∧ R (Itt K a) H1) : iTup K tl σ H R := h
theorem rd_iR1 (h : ts σ H fun vs H1 => ∃ j : Int, vs = [.int j] ∧ -(2 ^ 62) ≤ j ∧ j < 2 ^ 62 ∧ R (Itr 0 j.toNat) H1) : iRng1 ts σ H R := h
theorem rd_iZ (h : ts σ H fun vs H1 => ∃ a b xs ys, vs = [.ref a, .ref b] ∧ ((SqL K H1 a xs ∧ SqL K H1 b ys ∧ R (Itz K a b) H1) ∨ (SqT K H1 a xs ∧ SqT K H1 b ys ∧ R (ItzT K a b) H1))) : iZipA K ts σ H R := h
theorem rd_atL {P : Addr → Prop} (h : SqL K H a xs) (q : P a) : ∃ b, V.ref a = .ref b ∧ (∃ xs, SqL K H b xs) ∧ P b := ⟨a, rfl, ⟨xs, h⟩, q⟩
theorem rd_atT {P : Addr → Prop} (h : SqT K H a xs) (q : P a) : ∃ b, V.ref a = .ref b ∧ (∃ xs, SqT K H b xs) ∧ P b := ⟨a, rfl, ⟨xs, h⟩, q⟩
theorem rd_atR {P : Int → Prop} {i : Int} (h0 : 0 ≤ i) (h1 : i ≤ 1000000) (q : P i) : ∃ j : Int, [V.int i] = [.int j] ∧ -(2 ^ 62) ≤ j ∧ j < 2 ^ 62 ∧ P j := ⟨i, rfl, by omega, by omega, q⟩
theorem rd_atZ {P P' : Addr → Addr → Prop} (h : SqT K H a xs) (h' : SqT K H b ys) (q : P' a b) :
    ∃ c d zs ws, [V.ref a, V.ref b] = [.ref c, .ref d] ∧ ((SqL K H c zs ∧ SqL K H d ws ∧ P c d) ∨ (SqT K H c zs ∧ SqT K H d ws ∧ P' c d)) := ⟨a, b, xs, ys, rfl, .inr ⟨h, h', q⟩⟩
theorem rd_yes {QB : Bool → Hp → Prop} (h : QB true H) : tYes σ H QB := h
theorem rd_gname {v : V} {QS : L2.St → Hp → Prop} (h : QS (σ.set n (some v)) H) : gName n v σ H QS := h
theorem rd_gtup {QS : L2.St → Hp → Prop} {t : TGs} (h : SqT K H a xs) (hn : xs.length = n) (q : t xs σ H QS) : gTup K n t (.ref a) σ H QS := ⟨a, xs, rfl, h, hn, q⟩
theorem rd_gcons {QS : L2.St → Hp → Prop} {t : TG} {u : TGs} {v : V} {r : List V} (q : t v σ H fun σ' H' => u r σ' H' QS) : gCons t u (v :: r) σ H QS := ⟨v, r, rfl, q⟩
theorem rd_gnil {QS : L2.St → Hp → Prop} (q : QS σ H) : gNil [] σ H QS := ⟨rfl, q⟩
theorem rd_tyL {P : Prop} (h : SqL K H a xs) (q : P) : tyV K "list" (.ref a) H ∧ P := ⟨.inl ⟨rfl, _, h⟩, q⟩

theorem rd_asgG (h : te σ H fun v H1 => g v σ H1 D.nx) : tAsg te g D σ H := h
theorem rd_ii {P : Int → Int → Prop} {i j : Int} (h : P i j) : ∃ k l, [V.int i, V.int j] = [.int k, .int l] ∧ P k l := ⟨i, j, rfl, h⟩
theorem max_nat (a b : Nat) : (if (b : Int) > (a : Int) then (b : Int) else (a : Int)) = ((max a b : Nat) : Int) := by
  split <;> omega
theorem min_nat (a b : Nat) : (if (b : Int) < (a : Int) then (b : Int) else (a : Int)) = ((min a b : Nat) : Int) := by
  split <;> omega
theorem rd_disp {trs : List (TE × TE)} (h : ∀ p, H p = none → tPairs trs σ (upd H p (.dK [])) fun ps H2 => H2 p = some (.dK []) ∧
    ∃ kvs : List (Key × V), ps = kvs.map (fun kv => (kV kv.1, kv.2)) ∧ kvs.length ≤ 15 ∧ Q (.ref p) (upd H2 p (.dK (mergeK [] kvs)))) : tDisp trs σ H Q := h
theorem rd_pcons {tk tv : TE} {r : List (TE × TE)} {QP : List (V × V) → Hp → Prop} (h : tk σ H fun x H1 => tv σ H1 fun y H2 => tPairs r σ H2 fun ps H3 => QP ((x, y) :: ps) H3) :
    tPairs ((tk, tv) :: r) σ H QP := h
theorem rd_pnil {QP : List (V × V) → Hp → Prop} (h : QP [] H) : tPairs [] σ H QP := h
theorem cut_ints (ns : List Int) (lo hi : Option Int) : ∃ ms : List Int, cutV (ns.map V.int) lo hi = ms.map V.int ∧ ms.length ≤ ns.length := by
  refine ⟨(ns.drop (HT.sIx ns.length 0 lo)).take (HT.sIx ns.length ns.length hi - HT.sIx ns.length 0 lo), ?_, ?_⟩
  · unfold cutV
    rw [List.length_map, List.map_take, List.map_drop]
  · rw [List.length_take, List.length_drop]
    omega
open Evl in
theorem given_ints (n : Nat) (f : Nat → Bool) (h : Nat → Int) : given n f (fun i => V.int (h i)) = (((List.range n).filter f).map h).map V.int := by
  unfold given
  rw [List.map_map]
  rfl
theorem forL {Nx : L2.St → Hp → Prop} {Rt : VK} (Pv : Nat → L2.St → Hp → Prop) (h0 : Pv 0 σ H) (hl : ∀ i σ H, i ≤ xs.length → Pv i σ H → SqL K H a xs)
    (hs : ∀ i x σ H, xs[i]? = some x → Pv i σ H → g x σ H fun σ2 H2 => tb { nx := Pv (i + 1), rt := Rt, ct := Pv (i + 1), bk := Nx } σ2 H2) (hd : ∀ σ H, Pv xs.length σ H → Nx σ H) :
    ∃ W : Nat → Nat → L2.St → Hp → Prop, (∃ m, W 0 m σ H) ∧ ∀ i m σ H, W i m σ H → ((Itl K a).stop i H ∧ Nx σ H) ∨ ((Itl K a).go i H ∧ ∃ N : L2.St → Hp → Prop,
      (∀ σ' H', N σ' H' → ∃ m', m' < m ∧ W (i + 1) m' σ' H') ∧ ∀ x H', (Itl K a).yld i H x H' → g x σ H' fun σ2 H2 => tb { nx := N, rt := Rt, bk := Nx, ct := N } σ2 H2) :=
  for_list (D := { nx := Nx, rt := Rt }) Pv h0 hl hs hd
theorem forT {Nx : L2.St → Hp → Prop} {Rt : VK} (Pv : Nat → L2.St → Hp → Prop) (h0 : Pv 0 σ H) (hl : ∀ i σ H, i ≤ xs.length → Pv i σ H → SqT K H a xs)
    (hs : ∀ i x σ H, xs[i]? = some x → Pv i σ H → g x σ H fun σ2 H2 => tb { nx := Pv (i + 1), rt := Rt, ct := Pv (i + 1), bk := Nx } σ2 H2) (hd : ∀ σ H, Pv xs.length σ H → Nx σ H) :
    ∃ W : Nat → Nat → L2.St → Hp → Prop, (∃ m, W 0 m σ H) ∧ ∀ i m σ H, W i m σ H → ((Itt K a).stop i H ∧ Nx σ H) ∨ ((Itt K a).go i H ∧ ∃ N : L2.St → Hp → Prop,
      (∀ σ' H', N σ' H' → ∃ m', m' < m ∧ W (i + 1) m' σ' H') ∧ ∀ x H', (Itt K a).yld i H x H' → g x σ H' fun σ2 H2 => tb { nx := N, rt := Rt, bk := Nx, ct := N } σ2 H2) :=
  for_tup (D := { nx := Nx, rt := Rt }) Pv h0 hl hs hd
theorem forR {Nx : L2.St → Hp → Prop} {Rt : VK} {lo : Int} (Pv : Nat → L2.St → Hp → Prop) (h0 : Pv 0 σ H) 
    (hs : ∀ i σ H, i < n → Pv i σ H → g (.int (lo + i)) σ H fun σ2 H2 => tb { nx := Pv (i + 1), rt := Rt, ct := Pv (i + 1), bk := Nx } σ2 H2) (hd : ∀ σ H, Pv n σ H → Nx σ H) :
    ∃ W : Nat → Nat → L2.St → Hp → Prop, (∃ m, W 0 m σ H) ∧ ∀ i m σ H, W i m σ H → ((Itr lo n).stop i H ∧ Nx σ H) ∨ ((Itr lo n).go i H ∧ ∃ N : L2.St → Hp → Prop,
      (∀ σ' H', N σ' H' → ∃ m', m' < m ∧ W (i + 1) m' σ' H') ∧ ∀ x H', (Itr lo n).yld i H x H' → g x σ H' fun σ2 H2 => tb { nx := N, rt := Rt, bk := Nx, ct := N } σ2 H2) :=
  for_range (D := { nx := Nx, rt := Rt }) Pv h0 hs hd
theorem walk_zipT {n : Nat} (hn : n = min xs.length ys.length) : Walk (ItzT K a b) n (fun H => SqT K H a xs ∧ SqT K H b ys) (YPair (fun i => xs[i]?) (fun i => ys[i]?)) := by
  subst hn
  refine ⟨?_, ?_, ?_⟩
  · intro i _ hi q
    have h1 : i < xs.length := by omega
    have h2 : i < ys.length := by omega
    exact ⟨xs, ys, xs[i], ys[i], q.1, q.2, by simp [h1], by simp [h2]⟩
  · intro _ q
    exact ⟨xs, ys, q.1, q.2, by omega⟩
  · intro i H v H' _ q y
    obtain ⟨T, x, z, h1, h2, h3, h4, h5⟩ := y
    exact ⟨T, x, z, h1, h2, h3, h4 xs q.1, h5 ys q.2⟩

open Evl in
/-- a comprehension whose turns change nothing that stood: the turn's item is src i, kept if f i, giving v i -/
theorem lc_src {J : It} {G : Hp → Prop} {Y : Nat → Hp → V → Hp → Prop} {Dl : Addr} {Qd : Hp → Prop} (w : Walk J n G Y) (src : Nat → V)
    (hy : ∀ i H x H', i < n → Y i H x H' → H' = H ∧ x = src i) (f : Nat → Bool) (v : Nat → V) (hn : n ≤ 1000000) (hD : H1 Dl = none)
    (hG : ∀ H', Same H1 H' → G H') (hw : ∀ x, wipe ((wipe σ vs).set j (some x)) vs = wipe σ vs)
    (ht : ∀ i H' (R : Bool → Hp → Prop), i < n → Same H1 H' → R (f i) H' → tt ((wipe σ vs).set j (some (src i))) H' R)
    (he : ∀ i H' (R : VK), i < n → f i = true → Same H1 H' → (∀ H'', Same H' H'' → R (v i) H'') → te ((wipe σ vs).set j (some (src i))) H' R)
    (hd : ∀ H', Same H1 H' → H' Dl = some (.lst (given n f v)) → Qd H') :
    ∃ W : Nat → Nat → Hp → Prop, (∃ m, W 0 m (upd H1 Dl (.lst []))) ∧ ∀ i m H, W i m H →
      (J.stop i H ∧ Qd H) ∨ (J.go i H ∧ ∃ Nx : Hp → Prop, (∀ H', Nx H' → ∃ m', m' < m ∧ W (i + 1) m' H') ∧
        ∀ x H', J.yld i H x H' → gName j x (wipe σ vs) H' fun σ2 H2 => wipe σ2 vs = wipe σ vs ∧ tt σ2 H2 fun b H3 =>
          if b = true then te σ2 H3 fun y H4 => ∃ acc, H4 Dl = some (.lst acc) ∧ acc.length < sizeLine ∧ Nx (upd H4 Dl (.lst (acc ++ [y]))) else Nx H3) := by
  refine lc_it w (fun i H' => Same H1 H' ∧ H' Dl = some (.lst (given i f v))) ⟨Same.new hD _, upd_same⟩ (fun i H' _ p => hG H' p.1) ?_ fun H' p => hd H' p.1 p.2
  intro i x H H' hi p y
  obtain ⟨rfl, rfl⟩ := hy i H x H' hi y
  refine ⟨hw _, ht i H' _ hi p.1 ?_⟩
  cases hf : f i with
  | false =>
    refine iteF ⟨p.1, ?_⟩
    rw [given_no hf]
    exact p.2
  | true =>
    refine iteT (he i H' _ hi hf p.1 fun H'' s => ⟨given i f v, s _ _ p.2, ?_, ?_, ?_⟩)
    · have := given_len i f v
      rw [sizeLine_eq]
      omega
    · exact Same.put (p.1.trans s) hD _
    · rw [given_yes hf]
      exact upd_same
open Evl in
/-- the same over zip of two tuples -/
theorem lc_zip {Dl : Addr} {Qd : Hp → Prop} (v : Nat → V) (hl : xs.length = ys.length) (hn : xs.length ≤ 1000000) (hD : H1 Dl = none)
    (hx : SqT K H1 a xs) (hy : SqT K H1 b ys) (hw : ∀ x y, wipe (((wipe σ vs).set i1 (some x)).set i2 (some y)) vs = wipe σ vs)
    (he : ∀ i x y H' (R : VK), xs[i]? = some x → ys[i]? = some y → Same H1 H' → (∀ H'', Same H' H'' → R (v i) H'') →
      te (((wipe σ vs).set i1 (some x)).set i2 (some y)) H' R)
    (hd : ∀ H', Same H1 H' → H' Dl = some (.lst ((List.range xs.length).map v)) → Qd H') :
    ∃ W : Nat → Nat → Hp → Prop, (∃ m, W 0 m (upd H1 Dl (.lst []))) ∧ ∀ i m H, W i m H →
      ((ItzT K a b).stop i H ∧ Qd H) ∨ ((ItzT K a b).go i H ∧ ∃ Nx : Hp → Prop, (∀ H', Nx H' → ∃ m', m' < m ∧ W (i + 1) m' H') ∧
        ∀ x H', (ItzT K a b).yld i H x H' → gTup K 2 (gCons (gName i1) (gCons (gName i2) gNil)) x (wipe σ vs) H' fun σ2 H2 => wipe σ2 vs = wipe σ vs ∧ tYes σ2 H2 fun b H3 =>
          if b = true then te σ2 H3 fun y H4 => ∃ acc, H4 Dl = some (.lst acc) ∧ acc.length < sizeLine ∧ Nx (upd H4 Dl (.lst (acc ++ [y]))) else Nx H3) := by
  refine lc_it (walk_zipT (n := xs.length) (xs := xs) (ys := ys) (by omega)) (fun i H' => Same H1 H' ∧ H' Dl = some (.lst ((List.range i).map v)))
    ⟨Same.new hD _, upd_same⟩ (fun i H' _ p => ⟨p.1.seqT hx, p.1.seqT hy⟩) ?_ fun H' p => hd H' p.1 p.2
  rintro i z H H' hi ⟨s, e⟩ ⟨T, x, y, rfl, nT, rfl, ex, ey⟩
  have s' : Same H1 (upd H T (.tup [x, y])) := s.trans (Same.new nT _)
  have nDT : Dl ≠ T := ne_of_none e nT
  refine rd_gtup (xs := [x, y]) (sqT upd_same) rfl (rd_gcons (rd_gname (rd_gcons (rd_gname (rd_gnil ⟨hw x y, ?_⟩)))))
  refine rd_yes (iteT (he i x y _ _ ex ey s' fun H'' s'' => ⟨(List.range i).map v, s'' _ _ (by rw [upd_ne nDT]; exact e), ?_, ?_, ?_⟩))
  · rw [List.length_map, List.length_range, sizeLine_eq]
    omega
  · exact Same.put (s'.trans s'') hD _
  · rw [upd_same, List.range_succ, List.map_append]
    rfl
end
end Gd

/-! # sayings -/
namespace Gd
open PySem PySem.Spec PyProof.Rows L2

inductive Mk6 where
  | plus | times | leads | and | or | same
def Mk6.str : Mk6 → Str
  | .plus => "plus" | .times => "times" | .leads => "leads" | .and => "and" | .or => "or" | .same => "same"
inductive Say where
  | unk (x : Str) | yes | no | not (a : Say) | bin (k : Mk6) (a b : Say)
def Say.head : Say → Str
  | .unk _ => "unknown" | .yes => "yes" | .no => "no" | .not _ => "not" | .bin k _ _ => k.str
def Say.kids : Say → List Say
  | .unk _ => [] | .yes => [] | .no => [] | .not a => [a] | .bin _ a b => [a, b]
def Say.isUnk : Say → Bool
  | .unk _ => true | _ => false
def Say.depth : Say → Nat
  | .unk _ => 0 | .yes => 0 | .no => 0 | .not a => a.depth + 1 | .bin _ a b => max a.depth b.depth + 1
def Say.words : Say → Nat
  | .unk _ => 1 | .yes => 1 | .no => 1 | .not a => a.words + 1 | .bin _ a b => a.words + b.words + 1
def Say.marks : Say → Nat
  | .unk _ => 0 | .yes => 0 | .no => 0 | .not a => a.marks | .bin _ a b => a.marks + b.marks + 1
/-- the names, as often as they stand there -/
def Say.leaves : Say → List Str
  | .unk x => [x] | .yes => [] | .no => [] | .not a => a.leaves | .bin _ a b => a.leaves ++ b.leaves
def Say.namesIn : Say → List Str → List Str
  | .unk x, f => if x ∈ f then f else f ++ [x]
  | .yes, f => f | .no, f => f | .not a, f => a.namesIn f | .bin _ a b, f => b.namesIn (a.namesIn f)
/-- all words in writing order -/
def Say.all : Say → List Say
  | .unk x => [.unk x] | .yes => [.yes] | .no => [.no] | .not a => .not a :: a.all | .bin k a b => .bin k a b :: (a.all ++ b.all)
def SayAt (H : Hp) : Say → V → Prop
  | .unk x, v => ∃ p, v = .ref p ∧ H p = some (.tup [.str "unknown", .str x])
  | .yes, v => ∃ p, v = .ref p ∧ H p = some (.tup [.str "yes"])
  | .no, v => ∃ p, v = .ref p ∧ H p = some (.tup [.str "no"])
  | .not a, v => ∃ p u, v = .ref p ∧ H p = some (.tup [.str "not", u]) ∧ SayAt H a u
  | .bin k a b, v => ∃ p u w, v = .ref p ∧ H p = some (.tup [.str k.str, u, w]) ∧ SayAt H a u ∧ SayAt H b w
/-- tuples stay -/
def Tk (H H' : Hp) : Prop := ∀ p xs, H p = some (.tup xs) → H' p = some (.tup xs)
section
variable {H H' H1 : Hp} {s : Say} {v : V} {m : Addr}
theorem Tk.refl : Tk H H := fun _ _ h => h
theorem Tk.trans (a : Tk H H1) (b : Tk H1 H') : Tk H H' := fun p xs h => b p xs (a p xs h)
theorem Tk.of (h : Same H H') : Tk H H' := fun p xs e => h _ _ e
theorem Tk.kp {kvs : List (Key × V)} (h : Kp m H H') (e : H m = some (.dK kvs)) : Tk H H' := fun p xs q => h.get q e (fun z => nomatch z)
theorem SayAt.keep (t : Tk H H') : ∀ {s : Say} {v : V}, SayAt H s v → SayAt H' s v
  | .unk x, v, ⟨p, e, h⟩ => ⟨p, e, t _ _ h⟩
  | .yes, v, ⟨p, e, h⟩ => ⟨p, e, t _ _ h⟩
  | .no, v, ⟨p, e, h⟩ => ⟨p, e, t _ _ h⟩
  | .not a, v, ⟨p, u, e, h, ha⟩ => ⟨p, u, e, t _ _ h, SayAt.keep t ha⟩
  | .bin k a b, v, ⟨p, u, w, e, h, ha, hb⟩ => ⟨p, u, w, e, t _ _ h, SayAt.keep t ha, SayAt.keep t hb⟩
/-- sayings at values, one by one -/
inductive SaysAt (H : Hp) : List Say → List V → Prop
  | nil : SaysAt H [] []
  | cons {s : Say} {v : V} {ss : List Say} {vs : List V} : SayAt H s v → SaysAt H ss vs → SaysAt H (s :: ss) (v :: vs)
theorem SaysAt.keep (t : Tk H H') : ∀ {ss : List Say} {vs : List V}, SaysAt H ss vs → SaysAt H' ss vs
  | _, _, .nil => .nil
  | _, _, .cons a b => .cons (SayAt.keep t a) (SaysAt.keep t b)
theorem SaysAt.length : ∀ {ss : List Say} {vs : List V}, SaysAt H ss vs → ss.length = vs.length
  | _, _, .nil => rfl
  | _, _, .cons a b => congrArg Nat.succ b.length
theorem SaysAt.get : ∀ {ss : List Say} {vs : List V} {i : Nat} {v : V}, SaysAt H ss vs → vs[i]? = some v → ∃ s, ss[i]? = some s ∧ SayAt H s v
  | _, _, i, v, .nil, e => by simp at e
  | _, _, 0, v, .cons a b, e => by
    obtain rfl := Option.some.inj e
    exact ⟨_, rfl, a⟩
  | _, _, i + 1, v, .cons a b, e => b.get (i := i) e
theorem SaysAt.append : ∀ {ss tt : List Say} {vs ws : List V}, SaysAt H ss vs → SaysAt H tt ws → SaysAt H (ss ++ tt) (vs ++ ws)
  | _, _, _, _, .nil, b => b
  | _, _, _, _, .cons a r, b => .cons a (r.append b)
/-- the tuple of a saying -/
theorem SayAt.node : ∀ {s : Say} {v : V}, SayAt H s v → ∃ p items, v = .ref p ∧ H p = some (.tup (.str s.head :: items)) ∧
    ((∃ x, s = .unk x ∧ items = [.str x]) ∨ (s.isUnk = false ∧ SaysAt H s.kids items))
  | .unk x, v, ⟨p, e, h⟩ => ⟨p, _, e, h, .inl ⟨x, rfl, rfl⟩⟩
  | .yes, v, ⟨p, e, h⟩ => ⟨p, _, e, h, .inr ⟨rfl, .nil⟩⟩
  | .no, v, ⟨p, e, h⟩ => ⟨p, _, e, h, .inr ⟨rfl, .nil⟩⟩
  | .not a, v, ⟨p, u, e, h, ha⟩ => ⟨p, _, e, h, .inr ⟨rfl, .cons ha .nil⟩⟩
  | .bin k a b, v, ⟨p, u, w, e, h, ha, hb⟩ => ⟨p, _, e, h, .inr ⟨rfl, .cons ha (.cons hb .nil)⟩⟩
theorem kid_depth : ∀ {s t : Say}, t ∈ s.kids → t.depth < s.depth
  | .not a, t, h => by
    obtain rfl := List.mem_singleton.mp h
    exact Nat.lt_succ_self _
  | .bin k a b, t, h => by
    have e : t = a ∨ t = b := by simpa [Say.kids] using h
    show t.depth < max a.depth b.depth + 1
    rcases e with rfl | rfl <;> omega
theorem kids_le (s : Say) : s.kids.length ≤ 2 := by cases s <;> simp [Say.kids]
theorem mk6_unk : ∀ k : Mk6, ¬ V.str k.str = V.str "unknown" := by
  intro k
  cases k <;> decide +kernel
theorem mk6_not : ∀ k : Mk6, ¬ V.str k.str = V.str "not" := by
  intro k
  cases k <;> decide +kernel
theorem head_unk {s : Say} (h : s.isUnk = false) : ¬ V.str s.head = V.str "unknown" := by
  cases s with
  | unk x => cases h
  | yes => exact (by decide +kernel : ¬ V.str "yes" = V.str "unknown")
  | no => exact (by decide +kernel : ¬ V.str "no" = V.str "unknown")
  | not a => exact (by decide +kernel : ¬ V.str "not" = V.str "unknown")
  | bin k a b => exact mk6_unk k
def marksV : List V := [.str "plus", .str "times", .str "leads", .str "and", .str "or", .str "same"]
def Say.isBin : Say → Bool
  | .bin _ _ _ => true | _ => false
def Say.isNot : Say → Bool
  | .not _ => true | _ => false
theorem mk6_marks : ∀ k : Mk6, inV (.str k.str) marksV = true := by
  intro k
  cases k <;> decide +kernel
theorem in_marks (s : Say) : inV (.str s.head) marksV = s.isBin := by
  cases s with
  | unk x => exact (by decide +kernel : inV (.str "unknown") marksV = false)
  | yes => exact (by decide +kernel : inV (.str "yes") marksV = false)
  | no => exact (by decide +kernel : inV (.str "no") marksV = false)
  | not a => exact (by decide +kernel : inV (.str "not") marksV = false)
  | bin k a b => exact mk6_marks k
theorem head_not (s : Say) : decide (V.str s.head = V.str "not") = s.isNot := by
  cases s with
  | unk x => exact (by decide +kernel : decide (V.str "unknown" = V.str "not") = false)
  | yes => exact (by decide +kernel : decide (V.str "yes" = V.str "not") = false)
  | no => exact (by decide +kernel : decide (V.str "no" = V.str "not") = false)
  | not a => exact (by decide +kernel : decide (V.str "not" = V.str "not") = true)
  | bin k a b => exact decide_eq_false (mk6_not k)
theorem cut_tail (x : V) (xs : List V) : cutV (x :: xs) (some 1) none = xs := by
  unfold cutV
  have e1 : HT.sIx (x :: xs).length 0 (some 1) = 1 := by
    rw [show HT.sIx (x :: xs).length 0 (some 1) = min 1 (x :: xs).length from HT.sIx_nat _ 0 1]
    rw [List.length_cons]
    omega
  rw [e1, HT.sIx_none, List.length_cons, Nat.add_sub_cancel]
  exact List.take_length
theorem inV_strs (x : Str) (fs : List Str) : inV (.str x) (fs.map V.str) = decide (x ∈ fs) := by
  unfold inV
  rw [List.any_map]
  induction fs with
  | nil => rfl
  | cons y r ih =>
    rw [List.any_cons, ih]
    show ((y == x) || decide (x ∈ r)) = decide (x ∈ y :: r)
    by_cases e : x = y
    · subst e
      simp
    · have e' : ¬ y = x := fun z => e z.symm
      simp [e, e']
theorem flat_strs (fs : List Str) : (fs.map V.str).all flatV = true := by
  rw [List.all_map]
  exact List.all_eq_true.mpr fun x _ => rfl
section
variable {K : PySem.W.Frag} {H : Hp} {Q : VK} {a : Addr} {x : V} {xs : List V}
theorem rd_in (hs : SqL K H a xs ∨ SqT K H a xs) (hx : flatV x = true) (hf : xs.all flatV = true) {b : Bool} (hb : inV x xs = b) (h : Q (.bl b) H) : rIn K false x (.ref a) H Q := by
  refine ⟨a, xs, rfl, hs, hx, hf, ?_⟩
  rw [hb]
  exact h
theorem rd_tail (hs : SqT K H a (x :: xs)) (h : ∀ p, H p = none → Q (.ref p) (upd H p (.tup xs))) : rSlT K (.ref a) (some 1) none H Q := by
  refine ⟨a, x :: xs, rfl, hs, ?_, ?_⟩
  · rintro ⟨z, _⟩
    rw [show HT.sIx (x :: xs).length 0 (some 1) = min 1 (x :: xs).length from HT.sIx_nat _ 0 1, List.length_cons] at z
    omega
  · rw [cut_tail]
    exact h
end
def wsum (l : List Say) : Nat := (l.map Say.words).sum
theorem words_kids : ∀ s : Say, s.words = wsum s.kids + 1 := by
  intro s
  cases s <;> simp [Say.words, Say.kids, wsum]
theorem wsum_take {l : List Say} {i : Nat} {k : Say} (h : l[i]? = some k) : wsum (l.take i) + k.words ≤ wsum l := by
  induction l generalizing i with
  | nil => simp at h
  | cons x r ih =>
    cases i with
    | zero =>
      obtain rfl := Option.some.inj h
      show 0 + x.words ≤ x.words + wsum r
      omega
    | succ i =>
      have := ih (i := i) h
      show x.words + wsum (r.take i) + k.words ≤ x.words + wsum r
      omega
theorem names_len : ∀ (s : Say) (f : List Str), (s.namesIn f).length ≤ f.length + s.words
  | .unk x, f => by
    show (if x ∈ f then f else f ++ [x]).length ≤ f.length + 1
    split
    · omega
    · simp
  | .yes, f => Nat.le_add_right _ _
  | .no, f => Nat.le_add_right _ _
  | .not a, f => Nat.le_trans (names_len a f) (by show f.length + a.words ≤ f.length + (a.words + 1); omega)
  | .bin k a b, f => by
    have h1 := names_len a f
    have h2 := names_len b (a.namesIn f)
    show (b.namesIn (a.namesIn f)).length ≤ f.length + (a.words + b.words + 1)
    omega
def foldNames (l : List Say) (f : List Str) : List Str := l.foldl (fun f k => k.namesIn f) f
theorem fold_len (l : List Say) : ∀ f, (foldNames l f).length ≤ f.length + wsum l := by
  induction l with
  | nil => intro f; exact Nat.le_add_right _ _
  | cons x r ih =>
    intro f
    have h1 := ih (x.namesIn f)
    have h2 := names_len x f
    show (foldNames r (x.namesIn f)).length ≤ f.length + (x.words + wsum r)
    omega
theorem fold_more {l : List Say} {i : Nat} {k : Say} (h : l[i]? = some k) (f : List Str) : foldNames (l.take (i + 1)) f = k.namesIn (foldNames (l.take i) f) := by
  unfold foldNames
  rw [List.take_add_one, h, List.foldl_append]
  rfl
theorem names_kids {s : Say} (h : s.isUnk = false) (f : List Str) : s.namesIn f = foldNames s.kids f := by
  cases s with
  | unk x => cases h
  | yes => rfl
  | no => rfl
  | not a => rfl
  | bin k a b => rfl
def Say.heads (s : Say) : List Str := s.all.map Say.head
def Say.flatL : List Say → List Str := fun l => (l.map Say.heads).flatten
def Say.leavesL : List Say → List Str := fun l => (l.map Say.leaves).flatten
def Say.deepL : List Say → Nat := fun l => l.foldl (fun d k => max d (k.depth + 1)) 0
theorem heads_kids (s : Say) : s.heads = s.head :: Say.flatL s.kids := by
  cases s with
  | unk x => rfl
  | yes => rfl
  | no => rfl
  | not a => simp [Say.heads, Say.all, Say.flatL, Say.kids, Say.head]
  | bin k a b => simp [Say.heads, Say.all, Say.flatL, Say.kids, Say.head]
theorem leaves_kids {s : Say} (h : s.isUnk = false) : s.leaves = Say.leavesL s.kids := by
  cases s with
  | unk x => cases h
  | yes => rfl
  | no => rfl
  | not a => simp [Say.leaves, Say.leavesL, Say.kids]
  | bin k a b => simp [Say.leaves, Say.leavesL, Say.kids]
theorem depth_kids (s : Say) : s.depth = Say.deepL s.kids := by
  cases s with
  | unk x => rfl
  | yes => rfl
  | no => rfl
  | not a => show a.depth + 1 = max 0 (a.depth + 1); omega
  | bin k a b => show max a.depth b.depth + 1 = max (max 0 (a.depth + 1)) (b.depth + 1); omega
theorem all_len : ∀ s : Say, s.all.length = s.words
  | .unk x => rfl
  | .yes => rfl
  | .no => rfl
  | .not a => by show a.all.length + 1 = _; rw [all_len a]; rfl
  | .bin k a b => by show (a.all ++ b.all).length + 1 = _; rw [List.length_append, all_len a, all_len b]; rfl
theorem heads_len (s : Say) : s.heads.length = s.words := by
  unfold Say.heads
  rw [List.length_map, all_len]
theorem leaves_len : ∀ s : Say, s.leaves.length ≤ s.words
  | .unk x => Nat.le_refl _
  | .yes => Nat.zero_le _
  | .no => Nat.zero_le _
  | .not a => Nat.le_trans (leaves_len a) (Nat.le_succ _)
  | .bin k a b => by
    have h1 := leaves_len a
    have h2 := leaves_len b
    show (a.leaves ++ b.leaves).length ≤ a.words + b.words + 1
    rw [List.length_append]
    omega
theorem flat_len (l : List Say) : (Say.flatL l).length = wsum l := by
  induction l with
  | nil => rfl
  | cons x r ih =>
    show (x.heads ++ Say.flatL r).length = x.words + wsum r
    rw [List.length_append, heads_len, ih]
theorem leavesL_len (l : List Say) : (Say.leavesL l).length ≤ wsum l := by
  induction l with
  | nil => exact Nat.le_refl _
  | cons x r ih =>
    have h := leaves_len x
    show (x.leaves ++ Say.leavesL r).length ≤ x.words + wsum r
    rw [List.length_append]
    omega
theorem flat_more {l : List Say} {i : Nat} {k : Say} (h : l[i]? = some k) : Say.flatL (l.take (i + 1)) = Say.flatL (l.take i) ++ k.heads := by
  unfold Say.flatL
  rw [List.take_add_one, h, List.map_append, List.flatten_append]
  show _ ++ (k.heads ++ []) = _
  rw [List.append_nil]
theorem leaves_more {l : List Say} {i : Nat} {k : Say} (h : l[i]? = some k) : Say.leavesL (l.take (i + 1)) = Say.leavesL (l.take i) ++ k.leaves := by
  unfold Say.leavesL
  rw [List.take_add_one, h, List.map_append, List.flatten_append]
  show _ ++ (k.leaves ++ []) = _
  rw [List.append_nil]
theorem deep_more {l : List Say} {i : Nat} {k : Say} (h : l[i]? = some k) : Say.deepL (l.take (i + 1)) = max (Say.deepL (l.take i)) (k.depth + 1) := by
  unfold Say.deepL
  rw [List.take_add_one, h, List.foldl_append]
  rfl
def leafV : List V := [.str "unknown", .str "yes", .str "no"]
def Say.isLeaf : Say → Bool
  | .unk _ => true | .yes => true | .no => true | _ => false
theorem mk6_leaf : ∀ k : Mk6, inV (.str k.str) leafV = false := by
  intro k
  cases k <;> decide +kernel
theorem in_leaf (s : Say) : inV (.str s.head) leafV = s.isLeaf := by
  cases s with
  | unk x => exact (by decide +kernel : inV (.str "unknown") leafV = true)
  | yes => exact (by decide +kernel : inV (.str "yes") leafV = true)
  | no => exact (by decide +kernel : inV (.str "no") leafV = true)
  | not a => exact (by decide +kernel : inV (.str "not") leafV = false)
  | bin k a b => exact mk6_leaf k
/-- a test whose answer is a known truth value -/
theorem rd_bool {b : Bool} {A B : Prop} (h1 : b = true → A) (h2 : b = false → B) : if b = true then A else B := by
  cases b with
  | true => exact iteT (h1 rfl)
  | false => exact iteF (h2 rfl)
section
variable {K : PySem.W.Frag} {σ : L2.St} {H : Hp} {Q : VK} {D : Ends} {c : TT} {tb : TS} {a : Addr} {xs ys : List V}
theorem rd_while (W : Nat → L2.St → Hp → Prop) (m0 : Nat) (h0 : W m0 σ H) (hs : ∀ m σ H, W m σ H →
    c σ H fun b H1 => if b = true then ∃ N : L2.St → Hp → Prop, (∀ σ' H', N σ' H' → ∃ m', m' < m ∧ W m' σ' H') ∧ tb { D with nx := N, ct := N, bk := D.nx } σ H1 else D.nx σ H1) :
    tWhile c tb D σ H := ⟨W, ⟨m0, h0⟩, hs⟩
theorem rd_go {W : Nat → L2.St → Hp → Prop} {m : Nat} {P : (L2.St → Hp → Prop) → Prop} {B : Prop} (h : P fun σ' H' => ∃ m', m' < m ∧ W m' σ' H') :
    if true = true then ∃ N : L2.St → Hp → Prop, (∀ σ' H', N σ' H' → ∃ m', m' < m ∧ W m' σ' H') ∧ P N else B := iteT ⟨_, fun _ _ z => z, h⟩
theorem rd_truL {P : Bool → Prop} (h : SqL K H a xs) (q : P (!xs.isEmpty)) : ∃ k, TruV K (.ref a) H k ∧ P k := ⟨_, .inl ⟨xs, h, rfl⟩, q⟩
theorem rd_truT {P : Bool → Prop} (h : SqT K H a xs) (q : P (!xs.isEmpty)) : ∃ k, TruV K (.ref a) H k ∧ P k := ⟨_, .inr (.inl ⟨xs, h, rfl⟩), q⟩
theorem rd_pop {v : V} (h : H a = some (.lst (v :: xs).reverse)) (q : Q v (upd H a (.lst xs.reverse))) : rPop (.ref a) [] H Q := by
  have e : (v :: xs).reverse = xs.reverse ++ [v] := List.reverse_cons
  refine ⟨a, _, v, rfl, rfl, h, ?_, ?_⟩
  · rw [e, List.length_append, List.length_singleton, Nat.add_sub_cancel, List.getElem?_append_right (Nat.le_refl _), Nat.sub_self]
    rfl
  · rw [e, List.dropLast_concat]
    exact q
theorem rd_append {v : V} (h : H a = some (.lst xs)) (hz : xs.length < 1000000) (q : Q .non (upd H a (.lst (xs ++ [v])))) : rAppend (.ref a) [v] H Q :=
  ⟨a, xs, v, rfl, rfl, h, Nat.lt_trans hz (by decide), q⟩
theorem rd_extT {b : Addr} (h : H a = some (.lst xs)) (hb : H b = some (.tup ys)) (hz : xs.length + ys.length ≤ 1000000) (q : Q .non (upd H a (.lst (xs ++ ys)))) : rExtT K (.ref a) [.ref b] H Q :=
  ⟨a, b, xs, ys, rfl, rfl, h, hb, Nat.le_trans hz (by decide), q⟩
theorem rd_revT {te : TE} (h : te σ H fun x H1 => ∃ a xs, x = .ref a ∧ SqT K H1 a xs ∧ ∀ p, H1 p = none → Q (.ref p) (upd H1 p (.tup xs.reverse))) : tRevT K te σ H Q := h
theorem rd_revAt {P : List V → Prop} (h : SqT K H a xs) (q : P xs) : ∃ b ys, V.ref a = .ref b ∧ SqT K H b ys ∧ P ys := ⟨a, xs, rfl, h, q⟩
theorem rd_bm {T : String} {r : V → List V → Hp → VK → Prop} {to : TE} {t : TA} (h : to σ H fun x H1 => tyV K T x H1 ∧ t σ H1 fun xs H2 => r x xs H2 Q) : tBM K T r to t σ H Q := h
theorem rd_bm0 {T : String} {r : V → List V → Hp → VK → Prop} {to : TE} (h : to σ H fun x H1 => tyV K T x H1 ∧ r x [] H1 Q) : tBM0 K T r to σ H Q := h
end
/-- all words of several, one behind the other -/
def allL (l : List Say) : List Say := (l.map Say.all).flatten
theorem all_kids (s : Say) : s.all = s :: allL s.kids := by
  cases s with
  | unk x => rfl
  | yes => rfl
  | no => rfl
  | not a => simp [Say.all, allL, Say.kids]
  | bin k a b => simp [Say.all, allL, Say.kids]
theorem allL_append (l r : List Say) : allL (l ++ r) = allL l ++ allL r := by
  unfold allL
  rw [List.map_append, List.flatten_append]
theorem wsum_append (l r : List Say) : wsum (l ++ r) = wsum l + wsum r := by
  unfold wsum
  rw [List.map_append, List.sum_append_nat]
theorem allL_len (l : List Say) : (allL l).length = wsum l := by
  induction l with
  | nil => rfl
  | cons x r ih =>
    show (x.all ++ allL r).length = x.words + wsum r
    rw [List.length_append, all_len, ih]
theorem words_pos (s : Say) : 0 < s.words := by
  rw [words_kids]
  exact Nat.succ_pos _
theorem len_wsum (l : List Say) : l.length ≤ wsum l := by
  induction l with
  | nil => exact Nat.le_refl _
  | cons x r ih =>
    have := words_pos x
    show r.length + 1 ≤ x.words + wsum r
    omega
theorem count_range {α : Type} (l : List α) (d : α) (f : α → Bool) : ((List.range l.length).filter fun i => f (l.getD i d)).length = (l.filter f).length := by
  induction l with
  | nil => rfl
  | cons x r ih =>
    have e : (fun i => f ((x :: r).getD i d)) ∘ Nat.succ = fun i => f (r.getD i d) := rfl
    rw [List.length_cons, List.range_succ_eq_map, List.filter_cons, List.filter_map, e]
    have e0 : (x :: r).getD 0 d = x := rfl
    rw [e0, List.filter_cons]
    by_cases h : f x = true
    · rw [if_pos h, if_pos h, List.length_cons, List.length_cons, List.length_map, ih]
    · rw [if_neg h, if_neg h, List.length_map, ih]
theorem marks_count : ∀ s : Say, (s.all.filter Say.isBin).length = s.marks
  | .unk x => rfl
  | .yes => rfl
  | .no => rfl
  | .not a => by
    show ((Say.not a :: a.all).filter Say.isBin).length = a.marks
    rw [List.filter_cons_of_neg (show ¬ Say.isBin (.not a) = true from Bool.false_ne_true), marks_count a]
  | .bin k a b => by
    show ((Say.bin k a b :: (a.all ++ b.all)).filter Say.isBin).length = a.marks + b.marks + 1
    rw [List.filter_cons_of_pos (show Say.isBin (.bin k a b) = true from rfl), List.length_cons, List.filter_append, List.length_append, marks_count a, marks_count b]
/-- a text of the six marks -/
theorem mk6_of {v : V} (h : v ∈ ([.str "plus", .str "times", .str "leads", .str "and", .str "or", .str "same", .str "plus", .str "times", .str "leads"] : List V)) : ∃ k : Mk6, v = .str k.str := by
  simp only [List.mem_cons, List.not_mem_nil, or_false] at h
  rcases h with rfl | rfl | rfl | rfl | rfl | rfl | rfl | rfl | rfl
  · exact ⟨.plus, rfl⟩
  · exact ⟨.times, rfl⟩
  · exact ⟨.leads, rfl⟩
  · exact ⟨.and, rfl⟩
  · exact ⟨.or, rfl⟩
  · exact ⟨.same, rfl⟩
  · exact ⟨.plus, rfl⟩
  · exact ⟨.times, rfl⟩
  · exact ⟨.leads, rfl⟩
theorem rd_ints {i j : Int} {A B : Prop} (h1 : i = j → A) (h2 : i ≠ j → B) : if decide (V.int i = V.int j) = true then A else B :=
  rd_two (fun c => h1 (V.int.inj c)) fun c => h2 fun e => c (congrArg V.int e)
end
end Gd

/-! # data that shows well; sayings as data -/
namespace Gd
open PySem PySem.Spec PyProof.Rows L2
mutual
def smallD : PyData → Bool
  | .none => true
  | .bool _ => true
  | .int i => decide (i.natAbs < 10 ^ 11)
  | .str x => PyData.strOk x
  | .list xs => smallDs xs
  | .tuple xs => smallDs xs
  | .dict _ => false
def smallDs : List PyData → Bool
  | [] => true
  | x :: xs => smallD x && smallDs xs
end
mutual
theorem small_lay : ∀ d : PyData, smallD d = true → d.canLay0 = true
  | .none, _ => rfl
  | .bool _, _ => rfl
  | .int _, _ => rfl
  | .str x, h => by rw [smallD] at h; rw [PyData.canLay0]; exact h
  | .list xs, h => by rw [smallD] at h; rw [PyData.canLay0]; exact smalls_lay xs h
  | .tuple xs, h => by rw [smallD] at h; rw [PyData.canLay0]; exact smalls_lay xs h
  | .dict _, h => by rw [smallD] at h; cases h
theorem smalls_lay : ∀ xs : List PyData, smallDs xs = true → PyData.canLayAll0 xs = true
  | [], _ => rfl
  | x :: xs, h => by
    rw [smallDs, Bool.and_eq_true] at h
    rw [PyData.canLayAll0, small_lay x h.1, smalls_lay xs h.2]
    rfl
end
theorem PyData_int_len (i : Int) (h : i.natAbs < 10 ^ 11) : (PyData.shown (.int i)).length ≤ 12 := by
  rw [PyData.shown]
  have := int_text_length_le10 (k := 11) (by decide) h
  rw [PySem.ofString_length]
  exact this
mutual
theorem small_ints : ∀ d : PyData, smallD d = true → d.intsShort 13 = true
  | .none, _ => rfl
  | .bool _, _ => rfl
  | .int i, h => by
    rw [smallD, decide_eq_true_eq] at h
    rw [PyData.intsShort, decide_eq_true_eq]
    exact Nat.le_trans (PyData_int_len i h) (by decide)
  | .str x, h => rfl
  | .list xs, h => by rw [smallD] at h; rw [PyData.intsShort]; exact smalls_ints xs h
  | .tuple xs, h => by rw [smallD] at h; rw [PyData.intsShort]; exact smalls_ints xs h
  | .dict _, h => rfl
theorem smalls_ints : ∀ xs : List PyData, smallDs xs = true → PyData.intsShortAll 13 xs = true
  | [], _ => rfl
  | x :: xs, h => by
    rw [smallDs, Bool.and_eq_true] at h
    rw [PyData.intsShortAll, small_ints x h.1, smalls_ints xs h.2]
    rfl
end
mutual
theorem small_show : ∀ d : PyData, smallD d = true → d.showable = true
  | .none, _ => rfl
  | .bool _, _ => rfl
  | .int i, h => by
    rw [smallD, decide_eq_true_eq] at h
    rw [PyData.showable, decide_eq_true_eq]
    by_cases z : i.natAbs = 0
    · rw [z]; decide
    · refine (Nat.log2_lt z).mpr (Nat.lt_of_lt_of_le h ?_)
      exact Nat.le_trans (show 10 ^ 11 ≤ 2 ^ 64 by decide) (Nat.pow_le_pow_right (by decide) (by decide))
  | .str x, h => rfl
  | .list xs, h => by rw [smallD] at h; rw [PyData.showable]; exact smalls_show xs h
  | .tuple xs, h => by rw [smallD] at h; rw [PyData.showable]; exact smalls_show xs h
  | .dict _, h => by rw [smallD] at h; cases h
theorem smalls_show : ∀ xs : List PyData, smallDs xs = true → PyData.showableAll xs = true
  | [], _ => rfl
  | x :: xs, h => by
    rw [smallDs, Bool.and_eq_true] at h
    rw [PyData.showableAll, small_show x h.1, smalls_show xs h.2]
    rfl
end
section
variable {K : PySem.W.Frag} {H : Hp} {Q : VK} {v x y : V} {d d' : PyData}
theorem rd_repr (hd : Dp K H v d) (h : smallD d = true) (hb : d.bulk ≤ 1000000) (dp : d.depth ≤ 150) (q : Q (.str d.shown) H) : rRepr K [v] H Q :=
  ⟨v, d, rfl, hd, small_show d h, PyData.hasDict_of_canLay d (small_lay d h), dp,
    PyData.shown_fits_bulk (B := 13) (by decide) (by decide) (PyData.leavesShort_of_canLay0 13 d (small_lay d h) (small_ints d h)) (Nat.le_trans hb (by decide)), q⟩
theorem small_shaped (h : smallD d = true) (dp : d.depth ≤ 64) : SeqAt.shaped d = true := by
  show (d.canLay0 && decide (d.depth ≤ 64)) = true
  rw [small_lay d h, decide_eq_true dp]
  rfl
theorem rd_neD (hd : Dp K H x d) (he : Dp K H y d') (h1 : smallD d = true) (h2 : smallD d' = true) (p1 : d.depth ≤ 64) (p2 : d'.depth ≤ 64) (q : Q (.bl (!d.eqv d')) H) : rNeD K x y H Q :=
  ⟨d, d', hd, he, small_shaped h1 p1, small_shaped h2 p2, q⟩
theorem rd_eqD (hd : Dp K H x d) (he : Dp K H y d') (h1 : smallD d = true) (h2 : smallD d' = true) (p1 : d.depth ≤ 64) (p2 : d'.depth ≤ 64) (q : Q (.bl (d.eqv d')) H) : rEqD K x y H Q :=
  ⟨d, d', hd, he, small_shaped h1 p1, small_shaped h2 p2, q⟩
end
section
variable {K : PySem.W.Frag} {H : Hp} {v x y : V} {d d' : PyData}
/-! ### lists of numbers, of texts, of sayings -/
theorem dp_strs (K : PySem.W.Frag) (H : Hp) : ∀ fs : List Str, DpAll K H (fs.map V.str) (fs.map PyData.str)
  | [] => .nil
  | x :: r => .cons (.str x) (dp_strs K H r)
theorem dp_ints (K : PySem.W.Frag) (H : Hp) : ∀ ns : List Int, DpAll K H (ns.map V.int) (ns.map PyData.int)
  | [] => .nil
  | x :: r => .cons (.int x) (dp_ints K H r)
theorem small_strs : ∀ fs : List Str, (∀ x ∈ fs, PyData.strOk x = true) → smallDs (fs.map PyData.str) = true
  | [], _ => rfl
  | x :: r, h => by
    rw [List.map_cons, smallDs, smallD, h x (List.mem_cons_self ..), small_strs r fun y m => h y (List.mem_cons_of_mem _ m)]
    rfl
theorem small_intL : ∀ ns : List Int, (∀ x ∈ ns, x.natAbs < 10 ^ 11) → smallDs (ns.map PyData.int) = true
  | [], _ => rfl
  | x :: r, h => by
    rw [List.map_cons, smallDs, smallD, decide_eq_true (h x (List.mem_cons_self ..)), small_intL r fun y m => h y (List.mem_cons_of_mem _ m)]
    rfl
theorem depth_strs : ∀ fs : List Str, PyData.depthAll (fs.map PyData.str) = 0
  | [] => rfl
  | x :: r => by rw [List.map_cons, PyData.depthAll, PyData.depth, depth_strs r]; rfl
theorem depth_intL : ∀ fs : List Int, PyData.depthAll (fs.map PyData.int) = 0
  | [] => rfl
  | x :: r => by rw [List.map_cons, PyData.depthAll, PyData.depth, depth_intL r]; rfl
theorem bulk_strs : ∀ fs : List Str, (∀ x ∈ fs, x.cps.size ≤ 20) → PyData.bulkAll (fs.map PyData.str) ≤ 21 * fs.length
  | [], _ => Nat.zero_le _
  | x :: r, h => by
    rw [List.map_cons, PyData.bulkAll, PyData.bulk, List.length_cons]
    have h1 := h x (List.mem_cons_self ..)
    have h2 := bulk_strs r fun y m => h y (List.mem_cons_of_mem _ m)
    omega
theorem bulk_intL : ∀ fs : List Int, PyData.bulkAll (fs.map PyData.int) = fs.length
  | [] => rfl
  | x :: r => by
    rw [List.map_cons, PyData.bulkAll, PyData.bulk, List.length_cons, bulk_intL r]
    omega
end
def Say.data : Say → PyData
  | .unk x => .tuple [.str "unknown", .str x]
  | .yes => .tuple [.str "yes"]
  | .no => .tuple [.str "no"]
  | .not a => .tuple [.str "not", a.data]
  | .bin k a b => .tuple [.str k.str, a.data, b.data]
/-- a name whose text is short -/
def okName (x : Str) : Prop := PyData.strOk x = true ∧ x.cps.size ≤ 20
theorem mk6_strOk : ∀ k : Mk6, PyData.strOk k.str = true := by
  intro k
  cases k <;> decide +kernel
theorem mk6_size : ∀ k : Mk6, k.str.cps.size ≤ 5 := by
  intro k
  cases k <;> decide +kernel
theorem SayAt.dp (K : PySem.W.Frag) {H : Hp} : ∀ {s : Say} {v : V}, SayAt H s v → Dp K H v s.data
  | .unk x, v, ⟨p, e, h⟩ => e ▸ .tup (sqT h) (.cons (.str _) (.cons (.str _) .nil))
  | .yes, v, ⟨p, e, h⟩ => e ▸ .tup (sqT h) (.cons (.str _) .nil)
  | .no, v, ⟨p, e, h⟩ => e ▸ .tup (sqT h) (.cons (.str _) .nil)
  | .not a, v, ⟨p, u, e, h, ha⟩ => e ▸ .tup (sqT h) (.cons (.str _) (.cons (SayAt.dp K ha) .nil))
  | .bin k a b, v, ⟨p, u, w, e, h, ha, hb⟩ => e ▸ .tup (sqT h) (.cons (.str _) (.cons (SayAt.dp K ha) (.cons (SayAt.dp K hb) .nil)))
theorem say_small : ∀ s : Say, (∀ x ∈ s.leaves, okName x) → smallD s.data = true
  | .unk x, h => by
    rw [Say.data, smallD, smallDs, smallDs, smallDs, smallD, smallD, (h x (List.mem_singleton.mpr rfl)).1]
    decide +kernel
  | .yes, h => by decide +kernel
  | .no, h => by decide +kernel
  | .not a, h => by
    rw [Say.data, smallD, smallDs, smallDs, smallDs, smallD, say_small a h]
    decide +kernel
  | .bin k a b, h => by
    rw [Say.data, smallD, smallDs, smallDs, smallDs, smallDs, smallD, mk6_strOk, say_small a fun x m => h x (List.mem_append_left _ m), say_small b fun x m => h x (List.mem_append_right _ m)]
    rfl
theorem say_depth : ∀ s : Say, s.data.depth = s.depth + 1
  | .unk x => rfl
  | .yes => rfl
  | .no => rfl
  | .not a => by
    rw [Say.data, PyData.depth, PyData.depthAll, PyData.depthAll, PyData.depthAll, PyData.depth, say_depth a]
    show max 0 (max (a.depth + 1) 0) + 1 = a.depth + 1 + 1
    omega
  | .bin k a b => by
    rw [Say.data, PyData.depth, PyData.depthAll, PyData.depthAll, PyData.depthAll, PyData.depthAll, PyData.depth, say_depth a, say_depth b]
    show max 0 (max (a.depth + 1) (max (b.depth + 1) 0)) + 1 = max a.depth b.depth + 1 + 1
    omega
theorem say_bulk : ∀ s : Say, (∀ x ∈ s.leaves, okName x) → s.data.bulk ≤ 40 * s.words
  | .unk x, h => by
    have h1 := (h x (List.mem_singleton.mpr rfl)).2
    show ((7 + 1) + ((x.cps.size + 1) + 0)) ≤ 40 * 1
    omega
  | .yes, h => by decide +kernel
  | .no, h => by decide +kernel
  | .not a, h => by
    have h1 := say_bulk a h
    show ((3 + 1) + ((a.data.bulk + 1) + 0)) ≤ 40 * (a.words + 1)
    omega
  | .bin k a b, h => by
    have h1 := say_bulk a fun x m => h x (List.mem_append_left _ m)
    have h2 := say_bulk b fun x m => h x (List.mem_append_right _ m)
    have h3 := mk6_size k
    show ((k.str.cps.size + 1) + ((a.data.bulk + 1) + ((b.data.bulk + 1) + 0))) ≤ 40 * (a.words + b.words + 1)
    omega
theorem SaysAt.dp (K : PySem.W.Frag) {H : Hp} : ∀ {ss : List Say} {vs : List V}, SaysAt H ss vs → DpAll K H vs (ss.map Say.data)
  | _, _, .nil => .nil
  | _, _, .cons a b => .cons (a.dp K) (b.dp K)
theorem says_small : ∀ ss : List Say, (∀ s ∈ ss, ∀ x ∈ s.leaves, okName x) → smallDs (ss.map Say.data) = true
  | [], _ => rfl
  | s :: r, h => by
    rw [List.map_cons, smallDs, say_small s (h s (List.mem_cons_self ..)), says_small r fun y m => h y (List.mem_cons_of_mem _ m)]
    rfl
theorem says_depth (n : Nat) : ∀ ss : List Say, (∀ s ∈ ss, s.depth ≤ n) → PyData.depthAll (ss.map Say.data) ≤ n + 1
  | [], _ => Nat.zero_le _
  | s :: r, h => by
    rw [List.map_cons, PyData.depthAll, say_depth]
    have h1 := h s (List.mem_cons_self ..)
    have h2 := says_depth n r fun y m => h y (List.mem_cons_of_mem _ m)
    omega
theorem says_bulk : ∀ ss : List Say, (∀ s ∈ ss, ∀ x ∈ s.leaves, okName x) → PyData.bulkAll (ss.map Say.data) ≤ 41 * wsum ss
  | [], _ => Nat.zero_le _
  | s :: r, h => by
    rw [List.map_cons, PyData.bulkAll]
    have h1 := say_bulk s (h s (List.mem_cons_self ..))
    have h2 := says_bulk r fun y m => h y (List.mem_cons_of_mem _ m)
    have h3 := words_pos s
    show _ ≤ 41 * (s.words + wsum r)
    omega
open Evl in
/-- as lc_src, where the test lays new objects -/
theorem lc_srcA {σ : L2.St} {H1 : Hp} {te : TE} {tt : TT} {vs : List Nat} {j n : Nat} {J : L2.It} {G : Hp → Prop} {Y : Nat → Hp → V → Hp → Prop} {Dl : Addr} {Qd : Hp → Prop} (w : L2.Walk J n G Y) (src : Nat → V)
    (hy : ∀ i H x H', i < n → Y i H x H' → H' = H ∧ x = src i) (f : Nat → Bool) (v : Nat → V) (hn : n ≤ 1000000) (hD : H1 Dl = none)
    (hG : ∀ H', Same H1 H' → G H') (hw : ∀ x, wipe ((wipe σ vs).set j (some x)) vs = wipe σ vs)
    (ht : ∀ i H' (R : Bool → Hp → Prop), i < n → Same H1 H' → (∀ H'', Same H' H'' → R (f i) H'') → tt ((wipe σ vs).set j (some (src i))) H' R)
    (he : ∀ i H' (R : VK), i < n → f i = true → Same H1 H' → (∀ H'', Same H' H'' → R (v i) H'') → te ((wipe σ vs).set j (some (src i))) H' R)
    (hd : ∀ H', Same H1 H' → H' Dl = some (.lst (given n f v)) → Qd H') :
    ∃ W : Nat → Nat → Hp → Prop, (∃ m, W 0 m (upd H1 Dl (.lst []))) ∧ ∀ i m H, W i m H →
      (J.stop i H ∧ Qd H) ∨ (J.go i H ∧ ∃ Nx : Hp → Prop, (∀ H', Nx H' → ∃ m', m' < m ∧ W (i + 1) m' H') ∧
        ∀ x H', J.yld i H x H' → gName j x (wipe σ vs) H' fun σ2 H2 => wipe σ2 vs = wipe σ vs ∧ tt σ2 H2 fun b H3 =>
          if b = true then te σ2 H3 fun y H4 => ∃ acc, H4 Dl = some (.lst acc) ∧ acc.length < sizeLine ∧ Nx (upd H4 Dl (.lst (acc ++ [y]))) else Nx H3) := by
  refine lc_it w (fun i H' => Same H1 H' ∧ H' Dl = some (.lst (given i f v))) ⟨Same.new hD _, upd_same⟩ (fun i H' _ p => hG H' p.1) ?_ fun H' p => hd H' p.1 p.2
  intro i x H H' hi p y
  obtain ⟨rfl, rfl⟩ := hy i H x H' hi y
  refine ⟨hw _, ht i H' _ hi p.1 fun H0 s0 => ?_⟩
  have p' : Same H1 H0 ∧ H0 Dl = some (.lst (given i f v)) := ⟨p.1.trans s0, s0 _ _ p.2⟩
  cases hf : f i with
  | false =>
    refine iteF ⟨p'.1, ?_⟩
    rw [given_no hf]
    exact p'.2
  | true =>
    refine iteT (he i H0 _ hi hf p'.1 fun H'' s => ⟨given i f v, s _ _ p'.2, ?_, ?_, ?_⟩)
    · have := given_len i f v
      rw [sizeLine_eq]
      omega
    · exact Same.put (p'.1.trans s) hD _
    · rw [given_yes hf]
      exact upd_same
def atName (x : Str) : Say → Bool
  | .unk y => decide (y = x) | _ => false
theorem filter_leaves (x : Str) : ∀ s : Say, (s.leaves.filter fun y => decide (y = x)).length = (s.all.filter (atName x)).length
  | .unk y => by
    show (([y] : List Str).filter fun y => decide (y = x)).length = (([.unk y] : List Say).filter (atName x)).length
    by_cases c : y = x <;> simp [List.filter, c, atName]
  | .yes => rfl
  | .no => rfl
  | .not a => filter_leaves x a
  | .bin k a b => by
    show ((a.leaves ++ b.leaves).filter _).length = ((Say.bin k a b :: (a.all ++ b.all)).filter _).length
    rw [List.filter_cons_of_neg (show ¬ atName x (.bin k a b) = true from Bool.false_ne_true), List.filter_append, List.filter_append, List.length_append, List.length_append, filter_leaves x a, filter_leaves x b]
theorem marks_le : ∀ s : Say, s.marks ≤ s.words
  | .unk x => Nat.zero_le _
  | .yes => Nat.zero_le _
  | .no => Nat.zero_le _
  | .not a => Nat.le_trans (marks_le a) (Nat.le_succ _)
  | .bin k a b => by
    have h1 := marks_le a
    have h2 := marks_le b
    show a.marks + b.marks + 1 ≤ a.words + b.words + 1
    omega
/-- repr of a new tuple of whole numbers -/
theorem rd_reprI {K : PySem.W.Frag} {H : Hp} {Q : VK} {p : Addr} (ns : List Int) (h : H p = some (.tup (ns.map V.int))) (hs : ∀ x ∈ ns, x.natAbs < 10 ^ 11) (hl : ns.length ≤ 1000000)
    (q : Q (.str (PyData.tuple (ns.map PyData.int)).shown) H) : rRepr K [.ref p] H Q := by
  refine rd_repr (.tup (sqT h) (dp_ints K H ns)) ?_ ?_ ?_ q
  · rw [smallD]; exact small_intL ns hs
  · rw [PyData.bulk, bulk_intL]; exact hl
  · rw [PyData.depth, depth_intL]; decide
theorem rd_repr1 {K : PySem.W.Frag} {H : Hp} {Q : VK} {i : Int} (hs : i.natAbs < 10 ^ 11) (q : Q (.str (PyData.int i).shown) H) : rRepr K [.int i] H Q := by
  refine rd_repr (.int i) ?_ ?_ ?_ q
  · rw [smallD]; exact decide_eq_true hs
  · exact Nat.zero_le _
  · exact Nat.zero_le _
theorem rd_reprS {K : PySem.W.Frag} {H : Hp} {Q : VK} {p : Addr} (fs : List Str) (h : H p = some (.tup (fs.map V.str))) (hs : ∀ x ∈ fs, okName x) (hl : fs.length ≤ 10000)
    (q : Q (.str (PyData.tuple (fs.map PyData.str)).shown) H) : rRepr K [.ref p] H Q := by
  refine rd_repr (.tup (sqT h) (dp_strs K H fs)) ?_ ?_ ?_ q
  · rw [smallD]; exact small_strs fs fun x m => (hs x m).1
  · rw [PyData.bulk]
    have := bulk_strs fs fun x m => (hs x m).2
    omega
  · rw [PyData.depth, depth_strs]; decide
theorem rd_same {K : PySem.W.Frag} {x : V} {A B : Prop} (q : A) : if decide (x = x) = true then A else B := rd_true rfl q
/-- two texts that are one: no difference -/
theorem rd_neq {x : V} {A B : Prop} (q : B) : if (!decide (x = x)) = true then A else B := by
  rw [decide_eq_true rfl]
  exact iteF q
end Gd

namespace Lw
open PySem L2 Gd
def top (i : Nat) : Stmt := PySem.Challenge.pw_halftruths_k01_sayings_counted.main.body.getD i (.Pass ⟨0, 0, 0, 0⟩)
abbrev s_parts_of : Stmt := top 2
abbrev s_all_words : Stmt := top 3
abbrev s_words_in : Stmt := top 4
abbrev s_depth_of : Stmt := top 5
abbrev s_marks_in : Stmt := top 6
abbrev s_unknowns_of : Stmt := top 7
abbrev s_occurrences : Stmt := top 8
abbrev s_law_begun : Stmt := top 10
abbrev s_law_draw : Stmt := top 11
abbrev s_law_of : Stmt := top 12
abbrev s_law_saying : Stmt := top 13
abbrev s_law_names_in : Stmt := top 14
abbrev s_law_words : Stmt := top 15
abbrev s_law_leaves : Stmt := top 16
abbrev s_law_right : Stmt := top 17
abbrev s_law : Stmt := top 18
/-- what the top has written -/
structure Txt (K : PySem.W.Frag) (mg : Str → Option Value) where
  f_parts_of : Addr
  d_parts_of : FuncData
  F_parts_of : Fun K "parts_of" "parts_of" s_parts_of f_parts_of d_parts_of
  b_parts_of : Binds K d_parts_of ["word"] []
  g_parts_of : mg "parts_of" = some (.ref f_parts_of)
  f_all_words : Addr
  d_all_words : FuncData
  F_all_words : Fun K "all_words" "all_words" s_all_words f_all_words d_all_words
  b_all_words : Binds K d_all_words ["saying"] []
  g_all_words : mg "all_words" = some (.ref f_all_words)
  f_words_in : Addr
  d_words_in : FuncData
  F_words_in : Fun K "words_in" "words_in" s_words_in f_words_in d_words_in
  b_words_in : Binds K d_words_in ["saying"] []
  g_words_in : mg "words_in" = some (.ref f_words_in)
  f_depth_of : Addr
  d_depth_of : FuncData
  F_depth_of : Fun K "depth_of" "depth_of" s_depth_of f_depth_of d_depth_of
  b_depth_of : Binds K d_depth_of ["saying"] []
  g_depth_of : mg "depth_of" = some (.ref f_depth_of)
  f_marks_in : Addr
  d_marks_in : FuncData
  F_marks_in : Fun K "marks_in" "marks_in" s_marks_in f_marks_in d_marks_in
  b_marks_in : Binds K d_marks_in ["saying"] []
  g_marks_in : mg "marks_in" = some (.ref f_marks_in)
  f_unknowns_of : Addr
  d_unknowns_of : FuncData
  F_unknowns_of : Fun K "unknowns_of" "unknowns_of" s_unknowns_of f_unknowns_of d_unknowns_of
  b_unknowns_of : Binds K d_unknowns_of ["sayings"] []
  g_unknowns_of : mg "unknowns_of" = some (.ref f_unknowns_of)
  f_occurrences : Addr
  d_occurrences : FuncData
  F_occurrences : Fun K "occurrences" "occurrences" s_occurrences f_occurrences d_occurrences
  b_occurrences : Binds K d_occurrences ["saying", "name"] []
  g_occurrences : mg "occurrences" = some (.ref f_occurrences)
  f_law_begun : Addr
  d_law_begun : FuncData
  F_law_begun : Fun K "_law_begun" "_law_begun" s_law_begun f_law_begun d_law_begun
  b_law_begun : Binds K d_law_begun ["script", "k"] []
  g_law_begun : mg "_law_begun" = some (.ref f_law_begun)
  f_law_draw : Addr
  d_law_draw : FuncData
  F_law_draw : Fun K "_law_draw" "_law_draw" s_law_draw f_law_draw d_law_draw
  b_law_draw : Binds K d_law_draw ["m", "below"] []
  g_law_draw : mg "_law_draw" = some (.ref f_law_draw)
  f_law_of : Addr
  d_law_of : FuncData
  F_law_of : Fun K "_law_of" "_law_of" s_law_of f_law_of d_law_of
  b_law_of : Binds K d_law_of ["m", "some"] []
  g_law_of : mg "_law_of" = some (.ref f_law_of)
  f_law_saying : Addr
  d_law_saying : FuncData
  F_law_saying : Fun K "_law_saying" "_law_saying" s_law_saying f_law_saying d_law_saying
  b_law_saying : Binds K d_law_saying ["m", "names", "size"] []
  g_law_saying : mg "_law_saying" = some (.ref f_law_saying)
  f_law_names_in : Addr
  d_law_names_in : FuncData
  F_law_names_in : Fun K "_law_names_in" "_law_names_in" s_law_names_in f_law_names_in d_law_names_in
  b_law_names_in : Binds K d_law_names_in ["saying", "found"] []
  g_law_names_in : mg "_law_names_in" = some (.ref f_law_names_in)
  f_law_words : Addr
  d_law_words : FuncData
  F_law_words : Fun K "_law_words" "_law_words" s_law_words f_law_words d_law_words
  b_law_words : Binds K d_law_words ["saying"] []
  g_law_words : mg "_law_words" = some (.ref f_law_words)
  f_law_leaves : Addr
  d_law_leaves : FuncData
  F_law_leaves : Fun K "_law_leaves" "_law_leaves" s_law_leaves f_law_leaves d_law_leaves
  b_law_leaves : Binds K d_law_leaves ["saying"] []
  g_law_leaves : mg "_law_leaves" = some (.ref f_law_leaves)
  f_law_right : Addr
  d_law_right : FuncData
  F_law_right : Fun K "_law_right" "_law_right" s_law_right f_law_right d_law_right
  b_law_right : Binds K d_law_right ["saying", "names"] []
  g_law_right : mg "_law_right" = some (.ref f_law_right)
  z_len : mg "len" = none
  z_max : mg "max" = none
  z_tuple : mg "tuple" = none
  z_list : mg "list" = none
  z_int : mg "int" = none
  z_repr : mg "repr" = none
  z_range : mg "range" = none
  a_MARKS : Addr
  c_MARKS : mg "MARKS" = some (.ref a_MARKS)
  t_MARKS : ∀ H, SqT K H a_MARKS [.str "plus", .str "times", .str "leads", .str "and", .str "or", .str "same"]

local macro_rules | `(tactic| walk_at "rd1") => `(tactic| first
  | with_reducible refine rd_for ?_ | with_reducible refine rd_lc ?_ | with_reducible refine rd_iL ?_ | with_reducible refine rd_iT ?_ | with_reducible refine rd_iR1 ?_ | with_reducible refine rd_iZ ?_
  | with_reducible refine rd_pcons ?_ | with_reducible refine rd_pnil ?_ | with_reducible refine rd_disp ?_
  | with_reducible refine rd_bm ?_ | with_reducible refine rd_bm0 ?_ | with_reducible refine rd_revT ?_
  | with_reducible refine rd_gname ?_ | with_reducible refine rd_gcons ?_ | with_reducible refine rd_gnil ?_
  | with_reducible refine rd_seq ?_ | with_reducible refine rd_asg ?_ | with_reducible refine rd_asgG ?_ | with_reducible refine rd_ii ?_ | with_reducible refine rd_op ?_ | with_reducible refine rd_c ?_
  | ((with_reducible refine' rd_var ?rdh ?_); (case rdh => rfl))
  | with_reducible refine rd_i0 ?_ | with_reducible refine rd_ret ?_ | with_reducible refine rd_ifs ?_ | with_reducible refine rd_test ?_ | with_reducible refine rd_bl ?_
  | with_reducible refine rd_cb ?_ | with_reducible refine rd_cons ?_ | with_reducible refine rd_nil ?_ | with_reducible refine rd_call ?_
  | with_reducible refine rd_tup ?_ | with_reducible refine rd_lst ?_ | with_reducible refine rd_if ?_ | with_reducible refine rd_un ?_ | with_reducible refine rd_u ?_
  | with_reducible refine rd_dget ?_ | with_reducible refine rd_dput ?_ | with_reducible refine rd_par ?_ | with_reducible refine rd_pair ?_ | with_reducible refine rd_intI ?_
  | with_reducible refine rd_sl ?_ | with_reducible refine rd_nopart ?_ | with_reducible refine rd_part ?_ | with_reducible refine rd_int ?_
  | with_reducible refine rd_next ?_ | with_reducible refine rd_drop ?_ | with_reducible refine rd_retN ?_ | with_reducible refine rd_tb ?_
  | with_reducible refine rd_and ?_ | with_reducible refine rd_or ?_ | with_reducible refine rd_not ?_ | with_reducible refine rd_andV ?_ | with_reducible refine rd_orV ?_ | with_reducible refine rd_notV ?_
  | ((with_reducible refine rd_eq ?rdh ?_); (case rdh => rfl)) | ((with_reducible refine rd_ne ?rdh ?_); (case rdh => rfl))
  | ((with_reducible refine rd_i ?rdh ?_); (case rdh => first | decide | omega | exact ⟨by omega, by omega⟩ | exact ⟨by decide, by decide, by decide⟩ | exact .inl ⟨by omega, by omega⟩ | exact .inr ⟨by omega, by omega⟩))
  | (fail_if_success (with_reducible refine rd_i ?_ ?_)); dsimp only)
local macro_rules | `(tactic| walk_at "rd") => `(tactic| repeat (walk_at "rd1"))
local macro_rules | `(tactic| walk_at "difs") => `(tactic| (walk_at "rd"; repeat ((first | refine rd_true (by decide +kernel) ?_ | refine rd_false (by decide +kernel) ?_); walk_at "rd")))

/-! ### the draws -/
/-- at m stands a state from which at most n draws by place were made -/
def MAt (H : Hp) (m : Addr) (n : Nat) : Prop := ∃ (l s p : Int) (c : Addr) (cs : List Int), H m = some (.dK (mk l s c p)) ∧ H c = some (.lst (cs.map V.int)) ∧
  cs ≠ [] ∧ cs.length ≤ 200 ∧ 0 ≤ l ∧ 0 ≤ s ∧ s < 2147483647 ∧ 0 ≤ p ∧ p ≤ (n : Int)
theorem MAt.mono {H : Hp} {m : Addr} {n k : Nat} (h : MAt H m n) (q : n ≤ k) : MAt H m k := by
  obtain ⟨l, s, p, c, cs, a1, a2, a3, a4, a5, a6, a7, a8, a9⟩ := h
  exact ⟨l, s, p, c, cs, a1, a2, a3, a4, a5, a6, a7, a8, by omega⟩
theorem MAt.same {H H' : Hp} {m : Addr} {n : Nat} (h : MAt H m n) (q : Same H H') : MAt H' m n := by
  obtain ⟨l, s, p, c, cs, a1, a2, r⟩ := h
  exact ⟨l, s, p, c, cs, q _ _ a1, q _ _ a2, r⟩
theorem MAt.dict {H : Hp} {m : Addr} {n : Nat} (h : MAt H m n) : ∃ kvs, H m = some (.dK kvs) := by
  obtain ⟨l, s, p, c, cs, a1, _⟩ := h
  exact ⟨_, a1⟩
theorem MAt.tup {H H' : Hp} {m p : Addr} {n : Nat} {xs : List V} (h : MAt H m n) (k : Kp m H H') (e : H p = some (.tup xs)) : H' p = some (.tup xs) := by
  obtain ⟨kvs, hm⟩ := h.dict
  exact k.get e hm (fun z => nomatch z)
theorem MAt.lst {H H' : Hp} {m p : Addr} {n : Nat} {xs : List V} (h : MAt H m n) (k : Kp m H H') (e : H p = some (.lst xs)) : H' p = some (.lst xs) := by
  obtain ⟨kvs, hm⟩ := h.dict
  exact k.get e hm (fun z => nomatch z)
def spDraw : Sp := fun vs H Q _ => ∃ (m : Addr) (n : Nat) (below : Int), vs = [.ref m, .int below] ∧ MAt H m n ∧ n ≤ 1000000 ∧ 0 < below ∧ below < 2 ^ 1000 ∧
  ∀ (r : Int) (H' : Hp), 0 ≤ r → r < below → Kp m H H' → MAt H' m (n + 1) → Q (.int r) H'
/-- the list of the cells of the state at m -/
def Cel (H : Hp) (m c : Addr) : Prop := ∃ l s p : Int, H m = some (.dK (mk l s c p))
theorem Cel.eq {H : Hp} {m c d : Addr} {l s p : Int} (h : Cel H m d) (e : H m = some (.dK (mk l s c p))) : c = d := by
  obtain ⟨l', s', p', e'⟩ := h
  rw [e] at e'
  have e2 := HO.dK.inj (Option.some.inj e')
  unfold mk at e2
  simp only [List.cons.injEq, Prod.mk.injEq, V.ref.injEq] at e2
  exact e2.2.2.1.2
theorem MAt.cel {H : Hp} {m : Addr} {n : Nat} (h : MAt H m n) : ∃ c, Cel H m c ∧ (∃ o, H c = some o) := by
  obtain ⟨l, s, p, c, cs, a1, a2, _⟩ := h
  exact ⟨c, ⟨l, s, p, a1⟩, _, a2⟩
theorem MAt.upd {H : Hp} {m c a : Addr} {n : Nat} (h : MAt H m n) (hc : Cel H m c) (h1 : a ≠ m) (h2 : a ≠ c) (o : HO) : MAt (upd H a o) m n := by
  obtain ⟨l, s, p, c', cs, a1, a2, r⟩ := h
  obtain rfl := hc.eq a1
  exact ⟨l, s, p, c', cs, by rw [upd_ne (Ne.symm h1)]; exact a1, by rw [upd_ne (Ne.symm h2)]; exact a2, r⟩
def spDrawC : Sp := fun vs H Q _ => ∃ (m : Addr) (n : Nat) (below : Int), vs = [.ref m, .int below] ∧ MAt H m n ∧ n ≤ 1000000 ∧ 0 < below ∧ below < 2 ^ 1000 ∧
  ∀ (r : Int) (H' : Hp), 0 ≤ r → r < below → Kp m H H' → MAt H' m (n + 1) → (∀ c, Cel H m c → Cel H' m c) → Q (.int r) H'
theorem FnOk_weak {P : Program} {w : World} {K : PySem.W.Frag} {mg : Str → Option Value} {base : Heap} {CX : CXT} {k : Nat} {f : Addr} {fd : FuncData} {ps : List Str} {sp sp' : Sp} (F : FnOk P w K mg base CX k f fd ps sp) (h : ∀ vs H Q E, sp' vs H Q E → sp vs H Q E) : FnOk P w K mg base CX k f fd ps sp' :=
  ⟨fun vs H Q E z => F.len vs H Q E (h vs H Q E z), fun A outer s H args us vs Q E hr e0 hb r z => F.run A outer s H args us vs Q E hr e0 hb r (h vs H Q E z)⟩
section
variable {P : Program} {w : World} {K : PySem.W.Frag} {mg : Str → Option Value} {base : Heap}
theorem sc_law_draw : FnScope ["m", "below", "found", "spot", "cells", "added", "cell", "blend"] ["m", "below"] (defScope s_law_draw) := ⟨rfl, rfl, rfl, by decide +kernel, rfl, by decide +kernel, by decide +kernel⟩
theorem ok_law_drawC (T : Txt K mg) {k : Nat} : FnOk P w K mg base CX0 (k + 1) T.f_law_draw T.d_law_draw ["m", "below"] spDrawC := by
  refine T.F_law_draw.ok sc_law_draw (fun vs H Q E h => ?_) (fun cdv A outer s H vs Q E hr h => ?_)
  · obtain ⟨m, n, below, rfl, _⟩ := h
    rfl
  obtain ⟨m, n, below, rfl, ⟨l, sd, p, c, cs, a1, a2, a3, a4, a5, a6, a7, a8, a9⟩, hn, hb, hb2, q⟩ := h
  refine ⟨_, (pss_cons (ps_if (pt_cmpR op_gt (pe_dget (hu_of hr) (pv 0) pe_str (fun _ _ => rfl)) pe_int (by rfl)) (pss_cons (ps_set (i := 2) sc_law_draw.nd rfl (Or.inl rfl) (pe_op op_mod (pe_callTy call_int1 (by rfl) T.z_int (by decide +kernel) (pa_cons (pe_dget (hu_of hr) (pv 0) pe_str (fun _ _ => rfl)) pa_nil)) (pv 1)))
    (pss_cons (ps_dput (hu_of hr) (pv 0) pe_str (pe_op op_fdivW (pe_dget (hu_of hr) (pv 0) pe_str (fun _ _ => rfl)) (pv 1)) rfl)
    (pss_one (ps_ret (pv 2))))) pss_nil)
    (pss_cons (ps_set (i := 3) sc_law_draw.nd rfl (Or.inl rfl) (pe_dget (hu_of hr) (pv 0) pe_str (fun _ _ => rfl)))
    (pss_cons (ps_dput (hu_of hr) (pv 0) pe_str (pe_op op_add (pv 3) pe_int) rfl)
    (pss_cons (ps_par (i := 4) (j := 5) (by rfl) sc_law_draw.nd rfl rfl (by decide) rfl rfl (pa_cons (pe_dget (hu_of hr) (pv 0) pe_str (fun _ _ => rfl)) (pa_cons (pe_op op_add (pe_dget (hu_of hr) (pv 0) pe_str (fun _ _ => rfl)) (pe_op op_mul (pe_op op_mul pe_int (pv 3)) (pv 3))) pa_nil)) (by rfl))
    (pss_cons (ps_set (i := 6) sc_law_draw.nd rfl (Or.inl rfl) (pe_ix (ix_listK K) (pv 4) (pe_op op_mod (pe_callTy call_int1 (by rfl) T.z_int (by decide +kernel) (pa_cons (pv 3) pa_nil)) (pe_callB (len_seqK K) (by rfl) T.z_len (by decide +kernel) (pa_cons (pv 4) pa_nil))) (fun _ _ => rfl)))
    (pss_cons (ps_set (i := 7) sc_law_draw.nd rfl (Or.inl rfl) (pe_op op_mod (pe_callTy call_int1 (by rfl) T.z_int (by decide +kernel) (pa_cons (pe_op op_add (pe_op op_mul (pv 6) (pe_op op_add (pe_op op_mul pe_int (pv 3)) pe_int)) (pv 5)) pa_nil)) pe_int))
    (pss_cons (ps_set (i := 7) sc_law_draw.nd rfl (Or.inl rfl) (pe_op op_mod (pe_callTy call_int1 (by rfl) T.z_int (by decide +kernel) (pa_cons (pe_op op_add (pe_op op_add (pe_op op_mul (pv 7) (pv 7)) (pe_op op_mul pe_int (pv 3))) (pe_dget (hu_of hr) (pv 0) pe_str (fun _ _ => rfl))) pa_nil)) pe_int))
    (pss_one (ps_ret (pe_op op_mod (pe_op op_fdiv (pe_op op_mod (pe_callTy call_int1 (by rfl) T.z_int (by decide +kernel) (pa_cons (pe_op op_add (pe_op op_mul (pv 7) pe_int) (pv 3)) pa_nil)) pe_int) pe_int) (pv 1))))))))))), ?_⟩
  try dsimp only [L2.cxOf, L2.Cx.nox]
  walk_at "rd"
  refine rd_dgetK a1 val_left ?_
  walk_at "rd"
  refine rd_two (fun cl => ?_) (fun cl => ?_)
  · walk_at "rd"
    refine rd_dgetK a1 val_left ?_
    walk_at "rd"
    refine rd_dgetK a1 val_left ?_
    walk_at "rd"
    refine rd_i (wide_div hb (b := 1000) (by omega) (by decide) (by decide)) ?_
    walk_at "rd"
    refine rd_dputK a1 put_left (show 4 < 1000000 by decide) ?_
    walk_at "rd"
    refine q _ _ (Int.emod_nonneg _ (by omega)) (Int.emod_lt_of_pos _ hb) (Kp.at _) ?_ (fun c' h' => by rw [← h'.eq a1]; exact ⟨_, _, _, upd_same⟩)
    exact ⟨_, sd, p, c, cs, upd_same, (by rw [upd_ne (ne_of a2 a1 (fun z => nomatch z))]; exact a2), a3, a4, Int.ediv_nonneg a5 (by omega), a6, a7, a8, by omega⟩
  · walk_at "rd"
    refine rd_dgetK a1 val_spot ?_
    walk_at "rd"
    refine rd_dputK a1 put_spot (show 4 < 1000000 by decide) ?_
    have b1 : (upd H m (.dK (mk l sd c (p + 1)))) m = some (.dK (mk l sd c (p + 1))) := upd_same
    have b2 : (upd H m (.dK (mk l sd c (p + 1)))) c = some (.lst (cs.map V.int)) := by
      rw [upd_ne (ne_of a2 a1 (fun z => nomatch z))]
      exact a2
    walk_at "rd"
    refine rd_dgetK b1 val_cells ?_
    walk_at "rd"
    refine rd_dgetK b1 val_seed ?_
    walk_at "rd"
    refine rd_len (.inl (sqL b2)) ?_
    have h0 : 0 < cs.length := List.length_pos_iff.mpr a3
    have h1 : 0 < (cs.map V.int).length := by rw [List.length_map]; exact h0
    walk_at "rd"
    obtain ⟨z, hz⟩ : ∃ z : Int, atI (cs.map V.int) (p % ((cs.map V.int).length : Int)) = some (.int z) := by
      obtain ⟨v, e, hm⟩ := atI_mod (xs := cs.map V.int) p (fun z => a3 (List.map_eq_nil_iff.mp z))
      obtain ⟨z, _, rfl⟩ := List.mem_map.mp hm
      exact ⟨z, e⟩
    refine rd_ixL (sqL b2) hz ?_
    walk_at "rd"
    refine rd_dgetK b1 val_seed ?_
    walk_at "rd"
    refine q _ _ (Int.emod_nonneg _ (by omega)) (Int.emod_lt_of_pos _ hb) (Kp.at _) ?_ (fun c' h' => by rw [← h'.eq a1]; exact ⟨_, _, _, upd_same⟩)
    exact ⟨l, sd, p + 1, c, cs, b1, b2, a3, a4, a5, a6, a7, by omega, by omega⟩
theorem ok_law_draw (T : Txt K mg) {k : Nat} : FnOk P w K mg base CX0 (k + 1) T.f_law_draw T.d_law_draw ["m", "below"] spDraw :=
  FnOk_weak (ok_law_drawC T) fun vs H Q E ⟨m, n, below, e, hm, hn, hb, hb2, q⟩ => ⟨m, n, below, e, hm, hn, hb, hb2, fun r H' r0 r1 k h _ => q r H' r0 r1 k h⟩
end

/-! ### the state that a law begins with, and what is drawn from a list -/
def spBegun (K : PySem.W.Frag) : Sp := fun vs H Q _ => ∃ (a : Addr) (ns : List Int) (k : Int), vs = [.ref a, .int k] ∧ SqL K H a (ns.map V.int) ∧ ns.length ≤ 63 ∧ 0 ≤ k ∧ k ≤ 1000 ∧
  ∀ (m : Addr) (H' : Hp), Same H H' → H m = none → MAt H' m 0 → Q (.ref m) H'
section
variable {P : Program} {w : World} {K : PySem.W.Frag} {mg : Str → Option Value} {base : Heap}
theorem sc_law_begun : FnScope ["script", "k", "cells", "great", "begun", "cell"] ["script", "k"] (defScope s_law_begun) := ⟨rfl, rfl, rfl, by decide +kernel, rfl, by decide +kernel, by decide +kernel⟩
theorem ok_law_begun (T : Txt K mg) {k : Nat} : FnOk P w K mg base CX0 (k + 1) T.f_law_begun T.d_law_begun ["script", "k"] (spBegun K) := by
  refine T.F_law_begun.ok sc_law_begun (fun vs H Q E h => ?_) (fun cdv A outer s H vs Q E hr h => ?_)
  · obtain ⟨a, ns, k, rfl, _⟩ := h
    rfl
  obtain ⟨a, ns, k, rfl, hS, hl, k0, k1, q⟩ := h
  refine ⟨_, (pss_cons (ps_set (i := 2) sc_law_begun.nd rfl (Or.inl rfl) (pe_op op_cat (pe_slice (sl_listK K) (pv 0) (po_some (pv 1)) po_none) (pe_slice (sl_listK K) (pv 0) po_none (po_some (pv 1)))))
    (pss_cons (ps_setLc (i := 3) (own := [("cell", 5)]) (g := (gName 5)) rfl sc_law_begun.nd rfl rfl (sw_true rfl rfl rfl (by decide +kernel)) (pi_list (pv 0)) (blkOk_by (N := ["script", "k", "cells", "great", "begun", "cell"]) (sc := defScope s_law_begun) (by decide +kernel)) (fun _ _ _ _ _ => (pg_name (i := 5) sc_law_begun.nd rfl (Or.inl rfl))) (fun _ _ _ _ _ => (pts_one (pt_cmpR op_ge (pv 5) (pe_op op_pow pe_int pe_int) (by rfl)))) (fun _ _ _ _ _ => (pv 5)))
    (pss_cons (ps_set (i := 4) sc_law_begun.nd rfl (Or.inl rfl) (pe_op op_add pe_int (pe_op op_mul pe_int (pv 1))))
    (pss_cons (ps_for PassesOwn.never rfl (pi_list (pv 2)) (pg_name (i := 5) sc_law_begun.nd rfl (Or.inl rfl)) (pss_one (ps_set (i := 4) sc_law_begun.nd rfl (Or.inl rfl) (pe_op op_mod (pe_callTy call_int1 (by rfl) T.z_int (by decide +kernel) (pa_cons (pe_op op_add (pe_op op_mul (pv 4) pe_int) (pv 5)) pa_nil)) pe_int))))
    (pss_one (ps_ret (pe_disp (pps_cons pe_str (pe_ifExp (pt_cmpR op_lt (pv 1) (pe_callB (len_seqK K) (by rfl) T.z_len (by decide +kernel) (pa_cons (pv 3) pa_nil)) (by rfl)) (pe_ix (ix_listK K) (pv 3) (pv 1) (fun _ _ => rfl)) pe_int) (pps_cons pe_str (pv 4) (pps_cons pe_str (pe_op op_cat (pv 2) (pe_lst (pa_cons (pe_op op_add (pe_op op_mul pe_int (pv 1)) pe_int) pa_nil))) (pps_cons pe_str pe_int pps_nil)))) (by rfl) (by rfl) (fun z => by cases z) (by decide)))))))), ?_⟩
  try dsimp only [L2.cxOf, L2.Cx.nox]
  walk_at "rd"
  refine rd_slL hS fun p1 n1 => ?_
  have s1 := Same.new n1 (.lst (cutV (ns.map V.int) (some k) none))
  walk_at "rd"
  refine rd_slL (s1.seq hS) fun p2 n2 => ?_
  obtain ⟨m1, e1, h1⟩ := cut_ints ns (some k) none
  obtain ⟨m2, e2, h2⟩ := cut_ints ns none (some k)
  have s2 := s1.trans (Same.new n2 (.lst (cutV (ns.map V.int) none (some k))))
  have g1 := (Same.new n2 (.lst (cutV (ns.map V.int) none (some k)))) _ _ (upd_same (H := H) (a := p1) (o := .lst (cutV (ns.map V.int) (some k) none)))
  generalize hH2 : upd (upd H p1 (.lst (cutV (ns.map V.int) (some k) none))) p2 (.lst (cutV (ns.map V.int) none (some k))) = H2 at *
  have g2 : H2 p2 = some (.lst (cutV (ns.map V.int) none (some k))) := by rw [← hH2]; exact upd_same
  rw [e1] at g1
  rw [e2] at g2
  refine rd_cat g1 g2 (by rw [List.length_map, List.length_map]; omega) fun p3 n3 => ?_
  have s3 := s2.trans (Same.new n3 (.lst (m1.map V.int ++ m2.map V.int)))
  have g3 : (upd H2 p3 (.lst (m1.map V.int ++ m2.map V.int))) p3 = _ := upd_same
  generalize hH3 : upd H2 p3 (.lst (m1.map V.int ++ m2.map V.int)) = H3 at *
  rw [← List.map_append] at g3
  have h3 : (m1 ++ m2).length ≤ 126 := by rw [List.length_append]; omega
  generalize m1 ++ m2 = cs at g3 h3
  walk_at "rd"
  refine rd_atL (s3.seq hS) fun p4 n4 => lc_src walk_list (fun i => .int (ns.getD i 0)) ?_ (fun i => decide ((10 : Int) ^ 18 ≤ ns.getD i 0)) (fun i => .int (ns.getD i 0))
    (by rw [List.length_map]; omega) n4 (fun H' z => z.seq (s3.seq hS)) (fun x => rfl) ?_ ?_ ?_
  · rintro i H0 x H' hi ⟨rfl, e⟩
    refine ⟨rfl, ?_⟩
    rw [List.getElem?_map] at e
    cases z : ns[i]? with
    | none => rw [z] at e; cases e
    | some y =>
      rw [z] at e
      rw [List.getD_eq_getElem?_getD, z]
      exact (Option.some.inj e).symm
  · intro i H' R hi z r
    walk_at "rd"
    exact r
  · intro i H' R hi hf z r
    walk_at "rd"
    exact r H' (Same.refl _)
  intro H4 s4 g4
  rw [given_ints] at g4
  have pos : ∀ z ∈ ((List.range (ns.map V.int).length).filter fun i => decide ((10 : Int) ^ 18 ≤ ns.getD i 0)).map (fun i => ns.getD i 0), 0 ≤ z := by
    intro z hz
    obtain ⟨i, hi, rfl⟩ := List.mem_map.mp hz
    have := of_decide_eq_true (List.mem_filter.mp hi).2
    omega
  generalize (((List.range (ns.map V.int).length).filter fun i => decide ((10 : Int) ^ 18 ≤ ns.getD i 0)).map (fun i => ns.getD i 0)) = gs at g4 pos
  have g3' := s4 _ _ g3
  walk_at "rd"
  refine rd_atL (sqL g3') (forL (xs := cs.map V.int) (fun i σ H' => ∃ (b : Int) (x : Option V), σ = [some (.ref a), some (.int k), some (.ref p3), some (.ref p4), some (.int b), x] ∧
    0 ≤ b ∧ b < 2147483647 ∧ H' = H4) ⟨53 + 8 * k, none, rfl, by omega, by omega, rfl⟩ (fun i σ H' _ ⟨_, _, _, _, _, e⟩ => by rw [e]; exact sqL g3') ?_ ?_)
  · rintro i x σ H' hi ⟨b, y, rfl, b0, b1, rfl⟩
    obtain ⟨z, _, rfl⟩ := List.mem_map.mp (List.mem_of_getElem? hi)
    walk_at "rd"
    exact ⟨_, _, rfl, Int.emod_nonneg _ (by decide), Int.emod_lt_of_pos _ (by decide), rfl⟩
  · rintro σ H' ⟨b, y, rfl, b0, b1, rfl⟩
    walk_at "rd"
    intro m nm
    have s5 : Same H' _ := Same.new nm (.dK [])
    have g5 := (Same.new nm (.dK [])) _ _ g4
    have g6 := (Same.new nm (.dK [])) _ _ g3'
    have rest : ∀ l : Int, 0 ≤ l → tPairs [(tC (V.str (Str.ofString "seed")), tVar 4), (tC (V.str (Str.ofString "cells")), tOp rCat (tVar 2)
        (tLst (tCons (tOp (rI0 fun i j => V.int (i + j)) (tOp (rI CMul fun i j => V.int (i * j)) (tC (V.int 41)) (tVar 1)) (tC (V.int 13))) tNil))),
        (tC (V.str (Str.ofString "spot")), tC (V.int 0))] [some (.ref a), some (.int k), some (.ref p3), some (.ref p4), some (.int b), y] (upd H' m (.dK [])) fun ps H2 =>
          H2 m = some (.dK []) ∧ ∃ kvs : List (Key × V), (V.str (Str.ofString "left"), V.int l) :: ps = kvs.map (fun kv => (kV kv.1, kv.2)) ∧ kvs.length ≤ 15 ∧ Q (.ref m) (upd H2 m (.dK (mergeK [] kvs))) := by
      intro l hl
      walk_at "rd"
      refine ⟨by show 1 ≤ sizeLine; decide, fun p5 n5 => ?_⟩
      have s6 := s5.trans (Same.new n5 (.lst [V.int (41 * k + 13)]))
      have g7 := (Same.new n5 (.lst [V.int (41 * k + 13)])) _ _ g6
      have m1 := (Same.new n5 (.lst [V.int (41 * k + 13)])) _ _ (upd_same (H := H') (a := m) (o := .dK []))
      refine rd_cat g7 upd_same (by rw [List.length_map]; show cs.length + 1 ≤ 1000000; omega) fun p6 n6 => ?_
      have s7 := s6.trans (Same.new n6 (.lst (cs.map V.int ++ [V.int (41 * k + 13)])))
      have m2 := (Same.new n6 (.lst (cs.map V.int ++ [V.int (41 * k + 13)]))) _ _ m1
      have np : p6 ≠ m := (ne_of_none m1 n6).symm
      walk_at "rd"
      refine ⟨m2, mk l b p6 0, rfl, (by show 4 ≤ 15; decide), ?_⟩
      rw [merge_mk]
      have old : Same H H' := s3.trans s4
      have nm0 : H m = none := old.free nm
      refine q m _ (Same.put (old.trans s7) nm0 _) nm0 ⟨l, b, 0, p6, cs ++ [41 * k + 13], upd_same, ?_, by simp, ?_, hl, b0, b1, Int.le_refl 0, by omega⟩
      · rw [upd_ne np, upd_same, List.map_append]
        rfl
      · rw [List.length_append]
        show cs.length + 1 ≤ 200
        omega
    walk_at "rd"
    refine rd_len (.inl (sqL g5)) ?_
    walk_at "rd"
    refine rd_two (fun c => ?_) (fun c => ?_)
    · walk_at "rd"
      obtain ⟨v, e, _, hm⟩ := atI_in (xs := gs.map V.int) k0 c
      obtain ⟨z, hz, rfl⟩ := List.mem_map.mp hm
      refine rd_ixL (sqL g5) e ?_
      exact rest z (pos z hz)
    · exact rd_c (rest 0 (Int.le_refl 0))
end

def spOf (K : PySem.W.Frag) : Sp := fun vs H Q _ => ∃ (m a : Addr) (n : Nat) (xs : List V), vs = [.ref m, .ref a] ∧ MAt H m n ∧ n ≤ 999999 ∧ H a = some (.lst xs) ∧ xs ≠ [] ∧ xs.length ≤ 1000 ∧
  ∀ v H', v ∈ xs → Kp m H H' → MAt H' m (n + 1) → Q v H'
section
variable {P : Program} {w : World} {K : PySem.W.Frag} {mg : Str → Option Value} {base : Heap}
theorem sc_law_of : FnScope ["m", "some"] ["m", "some"] (defScope s_law_of) := ⟨rfl, rfl, rfl, by decide +kernel, rfl, by decide +kernel, by decide +kernel⟩
theorem ok_law_of (T : Txt K mg) {k : Nat} : FnOk P w K mg base CX0 (k + 2) T.f_law_of T.d_law_of ["m", "some"] (spOf K) := by
  refine T.F_law_of.ok sc_law_of (fun vs H Q E h => ?_) (fun cdv A outer s H vs Q E hr h => ?_)
  · obtain ⟨m, a, n, xs, rfl, _⟩ := h
    rfl
  obtain ⟨m, a, n, xs, rfl, hm, hn, ha, hx, hl, q⟩ := h
  refine ⟨_, (pss_one (ps_ret (pe_ix (ix_listK K) (pv 1) (pe_call (ok_law_draw T) hr (by rfl) T.g_law_draw T.F_law_draw.kp T.b_law_draw .nil pass0 (pa_cons (pv 0) (pa_cons (pe_callB (len_seqK K) (by rfl) T.z_len (by decide +kernel) (pa_cons (pv 1) pa_nil)) pa_nil))) (fun _ _ => rfl)))), ?_⟩
  try dsimp only [L2.cxOf, L2.Cx.nox]
  walk_at "rd"
  refine rd_len (.inl (sqL ha)) ?_
  walk_at "rd"
  have h0 : 0 < xs.length := List.length_pos_iff.mpr hx
  refine ⟨m, n, _, rfl, hm, by omega, by omega, Int.lt_of_le_of_lt (show (xs.length : Int) ≤ 1000 by omega) (by decide), fun r H' r0 r1 kp hm' => ?_⟩
  obtain ⟨v, e, _, hv⟩ := atI_in (xs := xs) r0 r1
  exact rd_ixL (sqL (hm.lst kp ha)) e (q v H' hv kp hm')
end

/-! ### a drawn saying -/
def spSaying (n : Nat) : Sp := fun vs H Q _ => ∃ (m a : Addr) (c size : Nat) (names : List Str), vs = [.ref m, .ref a, .int (size : Int)] ∧ MAt H m c ∧ c + 10 * (2 * size + 1) ≤ 900000 ∧
  H a = some (.lst (names.map V.str)) ∧ names ≠ [] ∧ names.length ≤ 100 ∧ size < n ∧
  ∀ (s : Say) (v : V) (H' : Hp), Kp m H H' → MAt H' m (c + 10 * (2 * size + 1)) → SayAt H' s v → (∀ x ∈ s.leaves, x ∈ names) → s.marks = size → s.depth ≤ 2 * size + 1 → s.words ≤ 4 * size + 2 → Q v H'
section
variable {P : Program} {w : World} {K : PySem.W.Frag} {mg : Str → Option Value} {base : Heap}
theorem sc_law_saying : FnScope ["m", "names", "size", "way", "made", "left", "mark", "first"] ["m", "names", "size"] (defScope s_law_saying) := ⟨rfl, rfl, rfl, by decide +kernel, rfl, by decide +kernel, by decide +kernel⟩
theorem ok_law_saying_n (T : Txt K mg) {k : Nat} : ∀ n : Nat, FnOk P w K mg base CX0 (k + n + 3) T.f_law_saying T.d_law_saying ["m", "names", "size"] (spSaying n)
  | 0 => by
    have no : ∀ vs H Q E, ¬ spSaying 0 vs H Q E := fun vs H Q E h => by
      obtain ⟨m, a, c, size, names, _, _, _, _, _, _, h, _⟩ := h
      exact Nat.not_lt_zero _ h
    exact ⟨fun vs H Q E h => absurd h (no vs H Q E), fun A outer s H args us vs Q E _ _ _ _ h => absurd h (no vs H Q E)⟩
  | n + 1 => by
    have ih := ok_law_saying_n T (k := k) n
    refine T.F_law_saying.ok sc_law_saying (fun vs H Q E h => ?_) (fun cdv A outer s H vs Q E hr h => ?_)
    · obtain ⟨m, a, c, size, names, rfl, _⟩ := h
      rfl
    obtain ⟨m, a, c, size, names, rfl, hm, hc, ha, hx, hl, hs, q⟩ := h
    refine ⟨_, (Evl.pss_cut (ps_if (pt_cmpR op_eq (pv 2) pe_int (by rfl)) (pss_cons (ps_set (i := 3) sc_law_saying.nd rfl (Or.inl rfl) (pe_call (ok_law_draw T) hr (by rfl) T.g_law_draw T.F_law_draw.kp T.b_law_draw .nil pass0 (pa_cons (pv 0) (pa_cons pe_int pa_nil))))
    (pss_one (ps_set (i := 4) sc_law_saying.nd rfl (Or.inl rfl) (pe_ifExp (pt_cmpR op_eq (pv 3) pe_int (by rfl)) (pe_tup (pa_cons pe_str pa_nil)) (pe_ifExp (pt_cmpR op_eq (pv 3) pe_int (by rfl)) (pe_tup (pa_cons pe_str pa_nil)) (pe_tup (pa_cons pe_str (pa_cons (pe_call (ok_law_of T) hr (by rfl) T.g_law_of T.F_law_of.kp T.b_law_of .nil pass0 (pa_cons (pv 0) (pa_cons (pv 1) pa_nil))) pa_nil)))))))) (pss_cons (ps_set (i := 5) sc_law_saying.nd rfl (Or.inl rfl) (pe_call (ok_law_draw T) hr (by rfl) T.g_law_draw T.F_law_draw.kp T.b_law_draw .nil pass0 (pa_cons (pv 0) (pa_cons (pv 2) pa_nil))))
    (pss_cons (ps_set (i := 6) sc_law_saying.nd rfl (Or.inl rfl) (pe_call (ok_law_of T) hr (by rfl) T.g_law_of T.F_law_of.kp T.b_law_of .nil pass0 (pa_cons (pv 0) (pa_cons (pe_lst (pa_cons pe_str (pa_cons pe_str (pa_cons pe_str (pa_cons pe_str (pa_cons pe_str (pa_cons pe_str (pa_cons pe_str (pa_cons pe_str (pa_cons pe_str pa_nil)))))))))) pa_nil))))
    (pss_cons (ps_set (i := 7) sc_law_saying.nd rfl (Or.inl rfl) (pe_call ih hr (by rfl) T.g_law_saying T.F_law_saying.kp T.b_law_saying .nil pass0 (pa_cons (pv 0) (pa_cons (pv 1) (pa_cons (pv 5) pa_nil)))))
    (pss_one (ps_set (i := 4) sc_law_saying.nd rfl (Or.inl rfl) (pe_tup (pa_cons (pv 6) (pa_cons (pv 7) (pa_cons (pe_call ih hr (by rfl) T.g_law_saying T.F_law_saying.kp T.b_law_saying .nil pass0 (pa_cons (pv 0) (pa_cons (pv 1) (pa_cons (pe_op op_sub (pe_op op_sub (pv 2) pe_int) (pv 5)) pa_nil)))) pa_nil))))))))))
    (pss_one (ps_ret (pe_ifExp (pt_cmpR op_eq (pe_call (ok_law_draw T) hr (by rfl) T.g_law_draw T.F_law_draw.kp T.b_law_draw .nil pass0 (pa_cons (pv 0) (pa_cons pe_int pa_nil))) pe_int (by rfl)) (pe_tup (pa_cons pe_str (pa_cons (pv 4) pa_nil))) (pv 4))))), ?_⟩
    try dsimp only [L2.cxOf, L2.Cx.nox]
    refine Evl.q_cut (M := fun σ2 H2 => ∃ (s : Say) (v : V) (y3 y5 y6 y7 : Option V), σ2 = [some (.ref m), some (.ref a), some (.int (size : Int)), y3, some v, y5, y6, y7] ∧
      Kp m H H2 ∧ MAt H2 m (c + 20 * size + 9) ∧ SayAt H2 s v ∧ (∀ x ∈ s.leaves, x ∈ names) ∧ s.marks = size ∧ s.depth ≤ 2 * size ∧ s.words ≤ 4 * size + 1) ?_ ?_
    · walk_at "rd"
      refine rd_ints (fun e => ?_) (fun e => ?_)
      · -- a leaf
        have e0 : size = 0 := by omega
        subst e0
        walk_at "rd"
        refine ⟨m, c, 9, rfl, hm, by omega, by decide, by decide, fun r H1 r0 r1 k1 m1 => ?_⟩
        walk_at "rd"
        refine rd_ints (fun e => ?_) (fun e => ?_)
        · walk_at "rd"
          refine ⟨by show 1 ≤ sizeLine; decide, fun p np => ?_⟩
          exact ⟨.yes, .ref p, _, _, _, _, rfl, k1.trans (Kp.new np _), (m1.same (Same.new np _)).mono (by omega), ⟨p, rfl, upd_same⟩, (fun x hx => nomatch hx), rfl, Nat.zero_le _, by decide⟩
        · walk_at "rd"
          refine rd_ints (fun e => ?_) (fun e => ?_)
          · walk_at "rd"
            refine ⟨by show 1 ≤ sizeLine; decide, fun p np => ?_⟩
            exact ⟨.no, .ref p, _, _, _, _, rfl, k1.trans (Kp.new np _), (m1.same (Same.new np _)).mono (by omega), ⟨p, rfl, upd_same⟩, (fun x hx => nomatch hx), rfl, Nat.zero_le _, by decide⟩
          · walk_at "rd"
            refine ⟨m, a, c + 1, names.map V.str, rfl, m1, by omega, hm.lst k1 ha, (fun z => hx (List.map_eq_nil_iff.mp z)), by rw [List.length_map]; omega, fun v H2 hv k2 m2 => ?_⟩
            obtain ⟨x, hxn, rfl⟩ := List.mem_map.mp hv
            walk_at "rd"
            refine ⟨by show 2 ≤ sizeLine; decide, fun p np => ?_⟩
            refine ⟨.unk x, .ref p, _, _, _, _, rfl, (k1.trans k2).trans (Kp.new np _), (m2.same (Same.new np _)).mono (by omega), ⟨p, rfl, upd_same⟩, fun y hy => ?_, rfl, Nat.zero_le _, (by show 1 ≤ 1; decide)⟩
            obtain rfl := List.mem_singleton.mp hy
            exact hxn
      · -- a mark
        walk_at "rd"
        refine ⟨m, c, (size : Int), rfl, hm, by omega, by omega, Int.lt_of_lt_of_le (show (size : Int) < 1000000 by omega) (by decide), fun r H1 r0 r1 k1 m1 => ?_⟩
        obtain ⟨left, rfl⟩ : ∃ left : Nat, r = (left : Int) := ⟨r.toNat, by omega⟩
        walk_at "rd"
        refine ⟨by show 9 ≤ sizeLine; decide, fun p np => ?_⟩
        refine ⟨m, p, c + 1, _, rfl, m1.same (Same.new np _), by omega, upd_same, (fun z => nomatch z), by decide, fun mv H2 hv k2 m2 => ?_⟩
        obtain ⟨kd, rfl⟩ := mk6_of hv
        have k02 : Kp m H H2 := (k1.trans (Kp.new np _)).trans k2
        walk_at "rd"
        refine ⟨m, a, c + 1 + 1, left, names, rfl, m2, by omega, hm.lst k02 ha, hx, hl, by omega, fun s1 v1 H3 k3 m3 a1 l1 n1 d1 w1 => ?_⟩
        have k03 := k02.trans k3
        walk_at "rd"
        refine ⟨m, a, c + 1 + 1 + 10 * (2 * left + 1), size - 1 - left, names, ?_, m3, by omega, hm.lst k03 ha, hx, hl, by omega, fun s2 v2 H4 k4 m4 a2 l2 n2 d2 w2 => ?_⟩
        · show [V.ref m, V.ref a, V.int ((size : Int) - 1 - (left : Int))] = _
          rw [show (size : Int) - 1 - (left : Int) = ((size - 1 - left : Nat) : Int) by omega]
        · walk_at "rd"
          refine ⟨by show 3 ≤ sizeLine; decide, fun p4 np4 => ?_⟩
          obtain ⟨kvs, hd⟩ := m3.dict
          have t4 : Tk H3 (upd H4 p4 (.tup [.str kd.str, v1, v2])) := (Tk.kp k4 hd).trans (Tk.of (Same.new np4 _))
          refine ⟨.bin kd s1 s2, .ref p4, _, _, _, _, rfl, (k03.trans k4).trans (Kp.new np4 _), (m4.same (Same.new np4 _)).mono (by omega), ⟨p4, v1, v2, rfl, upd_same, a1.keep t4, a2.keep (Tk.of (Same.new np4 _))⟩, ?_, ?_, ?_, ?_⟩
          · intro x hxl
            rcases List.mem_append.mp hxl with z | z
            · exact l1 x z
            · exact l2 x z
          · show s1.marks + s2.marks + 1 = size
            omega
          · show max s1.depth s2.depth + 1 ≤ 2 * size
            omega
          · show s1.words + s2.words + 1 ≤ 4 * size + 1
            omega
    · rintro σ2 H2 ⟨s0, v, y3, y5, y6, y7, rfl, k1, m1, a1, l1, n1, d1, w1⟩
      walk_at "rd"
      refine ⟨m, c + 20 * size + 9, 5, rfl, m1, by omega, by decide, by decide, fun r H3 r0 r1 k2 m2 => ?_⟩
      obtain ⟨kvs, hd⟩ := m1.dict
      walk_at "rd"
      refine rd_ints (fun e => ?_) (fun e => ?_)
      · walk_at "rd"
        refine ⟨by show 2 ≤ sizeLine; decide, fun p np => ?_⟩
        refine q (.not s0) (.ref p) _ ((k1.trans k2).trans (Kp.new np _)) ((m2.same (Same.new np _)).mono (by omega)) ⟨p, v, rfl, upd_same, a1.keep ((Tk.kp k2 hd).trans (Tk.of (Same.new np _)))⟩ l1 n1 ?_ ?_
        · show s0.depth + 1 ≤ _
          omega
        · show s0.words + 1 ≤ _
          omega
      · walk_at "rd"
        exact q s0 v _ (k1.trans k2) (m2.mono (by omega)) (a1.keep (Tk.kp k2 hd)) l1 n1 (by omega) (by omega)
end

/-! ### the law's own looks at a saying -/
def spNamesIn (n : Nat) : Sp := fun vs H Q _ => ∃ (s : Say) (v : V) (a : Addr) (fs : List Str), vs = [v, .ref a] ∧ SayAt H s v ∧ H a = some (.lst (fs.map V.str)) ∧ s.depth < n ∧ fs.length + s.words ≤ 100000 ∧
  ∀ (r : Addr) (H' : Hp), Same H H' → H' r = some (.lst ((s.namesIn fs).map V.str)) → Q (.ref r) H'
section
variable {P : Program} {w : World} {K : PySem.W.Frag} {mg : Str → Option Value} {base : Heap}
theorem sc_law_names_in : FnScope ["saying", "found", "inner"] ["saying", "found"] (defScope s_law_names_in) := ⟨rfl, rfl, rfl, by decide +kernel, rfl, by decide +kernel, by decide +kernel⟩
theorem ok_law_names_in_n (T : Txt K mg) {k : Nat} : ∀ n : Nat, FnOk P w K mg base CX0 (k + n) T.f_law_names_in T.d_law_names_in ["saying", "found"] (spNamesIn n)
  | 0 => by
    have no : ∀ vs H Q E, ¬ spNamesIn 0 vs H Q E := fun vs H Q E h => by
      obtain ⟨s, v, a, fs, _, _, _, h, _⟩ := h
      exact Nat.not_lt_zero _ h
    exact ⟨fun vs H Q E h => absurd h (no vs H Q E), fun A outer s H args us vs Q E _ _ _ _ h => absurd h (no vs H Q E)⟩
  | n + 1 => by
    have ih := ok_law_names_in_n T (k := k) n
    refine T.F_law_names_in.ok sc_law_names_in (fun vs H Q E h => ?_) (fun cdv A outer s H vs Q E hr h => ?_)
    · obtain ⟨s, v, a, fs, rfl, _⟩ := h
      rfl
    obtain ⟨s, v, a, fs, rfl, hs, ha, hd, hl, q⟩ := h
    refine ⟨_, (pss_cons (ps_if (pt_cmpR op_eq (pe_ix (ix_tupK K) (pv 0) pe_int (fun _ _ => rfl)) pe_str (by rfl)) (pss_one (ps_ret (pe_ifExp (pt_cmpR (in_seqK K) (pe_ix (ix_tupK K) (pv 0) pe_int (fun _ _ => rfl)) (pv 1) (by rfl)) (pv 1) (pe_op op_cat (pv 1) (pe_lst (pa_cons (pe_ix (ix_tupK K) (pv 0) pe_int (fun _ _ => rfl)) pa_nil)))))) pss_nil)
    (pss_cons (ps_for PassesOwn.never rfl (pi_tup (pe_slice (sl_tupK K) (pv 0) (po_some pe_int) po_none)) (pg_name (i := 2) sc_law_names_in.nd rfl (Or.inl rfl)) (pss_one (ps_set (i := 1) sc_law_names_in.nd rfl (Or.inl rfl) (pe_call ih hr (by rfl) T.g_law_names_in T.F_law_names_in.kp T.b_law_names_in .nil pass0 (pa_cons (pv 2) (pa_cons (pv 1) pa_nil))))))
    (pss_one (ps_ret (pv 1))))), ?_⟩
    try dsimp only [L2.cxOf, L2.Cx.nox]
    obtain ⟨p, items, rfl, hp, hk⟩ := hs.node
    walk_at "rd"
    refine rd_ixT (sqT hp) (atI_nat (j := 0) rfl) ?_
    walk_at "rd"
    refine rd_two (fun c => ?_) (fun c => ?_)
    · rcases hk with ⟨x, rfl, rfl⟩ | ⟨hu, _⟩
      · walk_at "rd"
        refine rd_ixT (sqT hp) (atI_nat (j := 1) rfl) ?_
        walk_at "rd"
        refine rd_in (.inl (sqL ha)) rfl (Gd.flat_strs fs) (inV_strs x fs) ?_
        walk_at "rd"
        refine rd_two (fun hx => ?_) (fun hx => ?_)
        · walk_at "rd"
          refine q a H (Same.refl _) ?_
          show H a = some (.lst ((if x ∈ fs then fs else fs ++ [x]).map V.str))
          rw [if_pos hx]
          exact ha
        · walk_at "rd"
          refine rd_ixT (sqT hp) (atI_nat (j := 1) rfl) ?_
          walk_at "rd"
          refine ⟨by show 1 ≤ sizeLine; decide, fun p1 n1 => ?_⟩
          refine rd_cat ((Same.new n1 _) _ _ ha) upd_same (by rw [List.length_map]; show fs.length + 1 ≤ 1000000; omega) fun p2 n2 => ?_
          refine q p2 _ ((Same.new n1 _).trans (Same.new n2 _)) ?_
          show _ = some (HO.lst ((if x ∈ fs then fs else fs ++ [x]).map V.str))
          rw [if_neg hx, upd_same, List.map_append]
          rfl
      · exact absurd c (head_unk hu)
    · rcases hk with ⟨x, rfl, rfl⟩ | ⟨hu, hks⟩
      · exact absurd rfl c
      walk_at "rd"
      refine rd_tail (sqT hp) fun p1 n1 => ?_
      have s1 : Same H (upd H p1 (.tup items)) := Same.new n1 _
      have wk := words_kids s
      refine rd_atT (sqT upd_same) (forT (xs := items) (fun i σ H' => ∃ (r : Addr) (y : Option V), σ = [some (.ref p), some (.ref r), y] ∧ Same (upd H p1 (.tup items)) H' ∧
        H' r = some (.lst ((foldNames (s.kids.take i) fs).map V.str))) ⟨a, none, rfl, Same.refl _, s1 _ _ ha⟩ (fun i σ H' _ ⟨_, _, _, z, _⟩ => z.seqT (sqT upd_same)) ?_ ?_)
      · rintro i x σ H' hi ⟨r, y, rfl, z, hr'⟩
        obtain ⟨kd, hkd, hat⟩ := hks.get hi
        have w1 := wsum_take hkd
        have w2 := fold_len (s.kids.take i) fs
        walk_at "rd"
        refine ⟨kd, x, r, foldNames (s.kids.take i) fs, rfl, hat.keep (Tk.of (s1.trans z)), hr', ?_, ?_, fun r' H2 z2 hr2 => ?_⟩
        · have := kid_depth (List.mem_of_getElem? hkd)
          omega
        · omega
        · walk_at "rd"
          refine ⟨r', _, rfl, z.trans z2, ?_⟩
          rw [fold_more hkd]
          exact hr2
      · rintro σ H' ⟨r, y, rfl, z, hr'⟩
        walk_at "rd"
        refine q r H' (s1.trans z) ?_
        rw [hr', names_kids hu, ← hks.length, List.take_length]
end

def spWords (n : Nat) : Sp := fun vs H Q _ => ∃ (s : Say) (v : V), vs = [v] ∧ SayAt H s v ∧ s.depth < n ∧ s.words ≤ 100000 ∧
  ∀ (t l : Addr) (H' : Hp), Same H H' → H' t = some (.tup [.ref l, .int (s.depth : Int)]) → H' l = some (.lst (s.heads.map V.str)) → Q (.ref t) H'
section
variable {P : Program} {w : World} {K : PySem.W.Frag} {mg : Str → Option Value} {base : Heap}
theorem sc_law_words : FnScope ["saying", "found", "deep", "inner", "more", "down"] ["saying"] (defScope s_law_words) := ⟨rfl, rfl, rfl, by decide +kernel, rfl, by decide +kernel, by decide +kernel⟩
theorem ok_law_words_n (T : Txt K mg) {k : Nat} : ∀ n : Nat, FnOk P w K mg base CX0 (k + n) T.f_law_words T.d_law_words ["saying"] (spWords n)
  | 0 => by
    have no : ∀ vs H Q E, ¬ spWords 0 vs H Q E := fun vs H Q E h => by
      obtain ⟨s, v, _, _, h, _⟩ := h
      exact Nat.not_lt_zero _ h
    exact ⟨fun vs H Q E h => absurd h (no vs H Q E), fun A outer s H args us vs Q E _ _ _ _ h => absurd h (no vs H Q E)⟩
  | n + 1 => by
    have ih := ok_law_words_n T (k := k) n
    refine T.F_law_words.ok sc_law_words (fun vs H Q E h => ?_) (fun cdv A outer s H vs Q E hr h => ?_)
    · obtain ⟨s, v, rfl, _⟩ := h
      rfl
    obtain ⟨s, v, rfl, hs, hd, hl, q⟩ := h
    refine ⟨_, (pss_cons (ps_if (pt_cmpR (in_seqK K) (pe_ix (ix_tupK K) (pv 0) pe_int (fun _ _ => rfl)) (pe_tup (pa_cons pe_str (pa_cons pe_str (pa_cons pe_str pa_nil)))) (by rfl)) (pss_one (ps_ret (pe_tup (pa_cons (pe_lst (pa_cons (pe_ix (ix_tupK K) (pv 0) pe_int (fun _ _ => rfl)) pa_nil)) (pa_cons pe_int pa_nil))))) pss_nil)
    (pss_cons (ps_par (i := 1) (j := 2) (by rfl) sc_law_words.nd rfl rfl (by decide) rfl rfl (pa_cons (pe_lst (pa_cons (pe_ix (ix_tupK K) (pv 0) pe_int (fun _ _ => rfl)) pa_nil)) (pa_cons pe_int pa_nil)) (by rfl))
    (pss_cons (ps_for PassesOwn.never rfl (pi_tup (pe_slice (sl_tupK K) (pv 0) (po_some pe_int) po_none)) (pg_name (i := 3) sc_law_words.nd rfl (Or.inl rfl)) (pss_cons (ps_asg (pe_call ih hr (by rfl) T.g_law_words T.F_law_words.kp T.b_law_words .nil pass0 (pa_cons (pv 3) pa_nil)) (pg_tup rfl (pgs_cons (pg_name (i := 4) sc_law_words.nd rfl (Or.inl rfl)) (pgs_cons (pg_name (i := 5) sc_law_words.nd rfl (Or.inl rfl)) pgs_nil))))
    (pss_cons (ps_set (i := 1) sc_law_words.nd rfl (Or.inl rfl) (pe_op op_cat (pv 1) (pv 4)))
    (pss_one (ps_set (i := 2) sc_law_words.nd rfl (Or.inl rfl) (pe_callB (call_max2 rfl) (by rfl) T.z_max (by decide +kernel) (pa_cons (pv 2) (pa_cons (pe_op op_add (pv 5) pe_int) pa_nil))))))))
    (pss_one (ps_ret (pe_tup (pa_cons (pv 1) (pa_cons (pv 2) pa_nil)))))))), ?_⟩
    try dsimp only [L2.cxOf, L2.Cx.nox]
    obtain ⟨p, items, rfl, hp, hk⟩ := hs.node
    walk_at "rd"
    refine rd_ixT (sqT hp) (atI_nat (j := 0) rfl) ?_
    walk_at "rd"
    refine ⟨by show 3 ≤ sizeLine; decide, fun p0 n0 => ?_⟩
    have s0 : Same H (upd H p0 (.tup [V.str (Str.ofString "unknown"), V.str (Str.ofString "yes"), V.str (Str.ofString "no")])) := Same.new n0 _
    have hp0 := s0 _ _ hp
    refine rd_in (.inr (sqT upd_same)) rfl rfl (in_leaf s) ?_
    walk_at "rd"
    refine rd_bool (fun c => ?_) (fun c => ?_)
    · walk_at "rd"
      refine rd_ixT (sqT hp0) (atI_nat (j := 0) rfl) ?_
      walk_at "rd"
      refine ⟨by show 1 ≤ sizeLine; decide, fun p1 n1 => ?_⟩
      walk_at "rd"
      refine ⟨by show 2 ≤ sizeLine; decide, fun p2 n2 => ?_⟩
      refine q p2 p1 _ ((s0.trans (Same.new n1 _)).trans (Same.new n2 _)) ?_ ?_
      · rw [upd_same]
        cases s <;> first | rfl | cases c
      · rw [(Same.new n2 _) _ _ upd_same]
        cases s <;> first | rfl | cases c
    · rcases hk with ⟨x, rfl, rfl⟩ | ⟨hu, hks⟩
      · cases c
      walk_at "rd"
      refine rd_ixT (sqT hp0) (atI_nat (j := 0) rfl) ?_
      walk_at "rd"
      refine ⟨by show 1 ≤ sizeLine; decide, fun p1 n1 => ?_⟩
      have s1 := s0.trans (Same.new n1 (.lst [V.str s.head]))
      have hp1 := s1 _ _ hp
      have hf1 : (upd (upd H p0 (.tup [V.str (Str.ofString "unknown"), V.str (Str.ofString "yes"), V.str (Str.ofString "no")])) p1 (.lst [V.str s.head])) p1 = some (.lst [V.str s.head]) := upd_same
      generalize upd (upd H p0 (.tup [V.str (Str.ofString "unknown"), V.str (Str.ofString "yes"), V.str (Str.ofString "no")])) p1 (.lst [V.str s.head]) = H1 at s1 hp1 hf1
      walk_at "rd"
      refine rd_tail (sqT hp1) fun p2 n2 => ?_
      have s2 : Same H1 (upd H1 p2 (.tup items)) := Same.new n2 _
      have wk := words_kids s
      have dk := depth_kids s
      refine rd_atT (sqT upd_same) (forT (xs := items) (fun i σ H' => ∃ (r : Addr) (y z u : Option V), σ = [some (.ref p), some (.ref r), some (.int (Say.deepL (s.kids.take i) : Int)), y, z, u] ∧ Same (upd H1 p2 (.tup items)) H' ∧
        H' r = some (.lst ((s.head :: Say.flatL (s.kids.take i)).map V.str))) ⟨p1, none, none, none, rfl, Same.refl _, s2 _ _ hf1⟩ (fun i σ H' _ ⟨_, _, _, _, _, z, _⟩ => z.seqT (sqT upd_same)) ?_ ?_)
      · rintro i x σ H' hi ⟨r, y, z, u, rfl, st, hr'⟩
        obtain ⟨kd, hkd, hat⟩ := hks.get hi
        have w1 := wsum_take hkd
        have w2 := flat_len (s.kids.take i)
        walk_at "rd"
        refine ⟨kd, x, rfl, hat.keep (Tk.of ((s1.trans s2).trans st)), ?_, by omega, fun t l H2 st2 ht hl2 => ?_⟩
        · have := kid_depth (List.mem_of_getElem? hkd)
          omega
        · refine rd_gtup (sqT ht) rfl ?_
          walk_at "rd"
          refine rd_cat (st2 _ _ hr') hl2 ?_ fun p3 n3 => ?_
          · rw [List.length_map, List.length_map, List.length_cons, heads_len, w2]
            omega
          · walk_at "rd"
            refine ⟨p3, some x, some (.ref l), some (.int (kd.depth : Int)), ?_, st.trans (st2.trans (Same.new n3 _)), ?_⟩
            · have e : (if (kd.depth : Int) + 1 > (Say.deepL (s.kids.take i) : Int) then (kd.depth : Int) + 1 else (Say.deepL (s.kids.take i) : Int)) = (Say.deepL (s.kids.take (i + 1)) : Int) := by
                rw [deep_more hkd, ← max_nat]
                rfl
              rw [← e]
              rfl
            · rw [upd_same, flat_more hkd, ← List.map_append]
              rfl
      · rintro σ H' ⟨r, y, z, u, rfl, st, hr'⟩
        walk_at "rd"
        refine ⟨by show 2 ≤ sizeLine; decide, fun p3 n3 => ?_⟩
        have e0 : s.kids.take items.length = s.kids := by rw [← hks.length, List.take_length]
        rw [e0] at hr'
        refine q p3 r _ ((s1.trans s2).trans (st.trans (Same.new n3 _))) ?_ ?_
        · rw [upd_same, e0, ← dk]
        · rw [(Same.new n3 _) _ _ hr', ← heads_kids]
end

def spLeaves (n : Nat) : Sp := fun vs H Q _ => ∃ (s : Say) (v : V), vs = [v] ∧ SayAt H s v ∧ s.depth < n ∧ s.words ≤ 100000 ∧
  ∀ (l : Addr) (H' : Hp), Same H H' → H' l = some (.lst (s.leaves.map V.str)) → Q (.ref l) H'
section
variable {P : Program} {w : World} {K : PySem.W.Frag} {mg : Str → Option Value} {base : Heap}
theorem sc_law_leaves : FnScope ["saying", "found", "inner"] ["saying"] (defScope s_law_leaves) := ⟨rfl, rfl, rfl, by decide +kernel, rfl, by decide +kernel, by decide +kernel⟩
theorem ok_law_leaves_n (T : Txt K mg) {k : Nat} : ∀ n : Nat, FnOk P w K mg base CX0 (k + n) T.f_law_leaves T.d_law_leaves ["saying"] (spLeaves n)
  | 0 => by
    have no : ∀ vs H Q E, ¬ spLeaves 0 vs H Q E := fun vs H Q E h => by
      obtain ⟨s, v, _, _, h, _⟩ := h
      exact Nat.not_lt_zero _ h
    exact ⟨fun vs H Q E h => absurd h (no vs H Q E), fun A outer s H args us vs Q E _ _ _ _ h => absurd h (no vs H Q E)⟩
  | n + 1 => by
    have ih := ok_law_leaves_n T (k := k) n
    refine T.F_law_leaves.ok sc_law_leaves (fun vs H Q E h => ?_) (fun cdv A outer s H vs Q E hr h => ?_)
    · obtain ⟨s, v, rfl, _⟩ := h
      rfl
    obtain ⟨s, v, rfl, hs, hd, hl, q⟩ := h
    refine ⟨_, (pss_cons (ps_if (pt_cmpR op_eq (pe_ix (ix_tupK K) (pv 0) pe_int (fun _ _ => rfl)) pe_str (by rfl)) (pss_one (ps_ret (pe_lst (pa_cons (pe_ix (ix_tupK K) (pv 0) pe_int (fun _ _ => rfl)) pa_nil)))) pss_nil)
    (pss_cons (ps_set (i := 1) sc_law_leaves.nd rfl (Or.inl rfl) (pe_lst pa_nil))
    (pss_cons (ps_for PassesOwn.never rfl (pi_tup (pe_slice (sl_tupK K) (pv 0) (po_some pe_int) po_none)) (pg_name (i := 2) sc_law_leaves.nd rfl (Or.inl rfl)) (pss_one (ps_set (i := 1) sc_law_leaves.nd rfl (Or.inl rfl) (pe_op op_cat (pv 1) (pe_call ih hr (by rfl) T.g_law_leaves T.F_law_leaves.kp T.b_law_leaves .nil pass0 (pa_cons (pv 2) pa_nil))))))
    (pss_one (ps_ret (pv 1)))))), ?_⟩
    try dsimp only [L2.cxOf, L2.Cx.nox]
    obtain ⟨p, items, rfl, hp, hk⟩ := hs.node
    walk_at "rd"
    refine rd_ixT (sqT hp) (atI_nat (j := 0) rfl) ?_
    walk_at "rd"
    refine rd_two (fun c => ?_) (fun c => ?_)
    · rcases hk with ⟨x, rfl, rfl⟩ | ⟨hu, _⟩
      · walk_at "rd"
        refine rd_ixT (sqT hp) (atI_nat (j := 1) rfl) ?_
        walk_at "rd"
        exact ⟨by show 1 ≤ sizeLine; decide, fun p1 n1 => q p1 _ (Same.new n1 _) upd_same⟩
      · exact absurd c (head_unk hu)
    · rcases hk with ⟨x, rfl, rfl⟩ | ⟨hu, hks⟩
      · exact absurd rfl c
      walk_at "rd"
      refine ⟨Nat.zero_le _, fun p1 n1 => ?_⟩
      have s1 : Same H (upd H p1 (.lst [])) := Same.new n1 _
      walk_at "rd"
      refine rd_tail (sqT (s1 _ _ hp)) fun p2 n2 => ?_
      have s2 : Same (upd H p1 (.lst [])) (upd (upd H p1 (.lst [])) p2 (.tup items)) := Same.new n2 _
      have wk := words_kids s
      refine rd_atT (sqT upd_same) (forT (xs := items) (fun i σ H' => ∃ (r : Addr) (y : Option V), σ = [some (.ref p), some (.ref r), y] ∧ Same (upd (upd H p1 (.lst [])) p2 (.tup items)) H' ∧
        H' r = some (.lst ((Say.leavesL (s.kids.take i)).map V.str))) ⟨p1, none, rfl, Same.refl _, s2 _ _ upd_same⟩ (fun i σ H' _ ⟨_, _, _, z, _⟩ => z.seqT (sqT upd_same)) ?_ ?_)
      · rintro i x σ H' hi ⟨r, y, rfl, st, hr'⟩
        obtain ⟨kd, hkd, hat⟩ := hks.get hi
        have w1 := wsum_take hkd
        have w2 := leavesL_len (s.kids.take i)
        have w3 := leaves_len kd
        walk_at "rd"
        refine ⟨kd, x, rfl, hat.keep (Tk.of ((s1.trans s2).trans st)), ?_, by omega, fun l H2 st2 hl2 => ?_⟩
        · have := kid_depth (List.mem_of_getElem? hkd)
          omega
        · refine rd_cat (st2 _ _ hr') hl2 ?_ fun p3 n3 => ?_
          · rw [List.length_map, List.length_map]
            omega
          · walk_at "rd"
            refine ⟨p3, some x, rfl, st.trans (st2.trans (Same.new n3 _)), ?_⟩
            rw [upd_same, leaves_more hkd, ← List.map_append]
      · rintro σ H' ⟨r, y, rfl, st, hr'⟩
        walk_at "rd"
        refine q r H' ((s1.trans s2).trans st) ?_
        rw [hr', leaves_kids hu, ← hks.length, List.take_length]
end

/-! ### the program: parts, words -/
def spParts : Sp := fun vs H Q _ => ∃ (s : Say) (v : V), vs = [v] ∧ SayAt H s v ∧ ∀ (t : Addr) (items : List V) (H' : Hp), Same H H' → H' t = some (.tup items) → SaysAt H' s.kids items → Q (.ref t) H'
section
variable {P : Program} {w : World} {K : PySem.W.Frag} {mg : Str → Option Value} {base : Heap}
theorem sc_parts_of : FnScope ["word"] ["word"] (defScope s_parts_of) := ⟨rfl, rfl, rfl, by decide +kernel, rfl, by decide +kernel, by decide +kernel⟩
theorem ok_parts_of (T : Txt K mg) {k : Nat} : FnOk P w K mg base CX0 (k + 1) T.f_parts_of T.d_parts_of ["word"] spParts := by
  refine T.F_parts_of.ok sc_parts_of (fun vs H Q E h => ?_) (fun cdv A outer s H vs Q E hr h => ?_)
  · obtain ⟨s, v, rfl, _⟩ := h
    rfl
  obtain ⟨s, v, rfl, hs, q⟩ := h
  refine ⟨_, (pss_one (ps_ret (pe_ifExp (pt_cmpR op_eq (pe_ix (ix_tupK K) (pv 0) pe_int (fun _ _ => rfl)) pe_str (by rfl)) (pe_tup pa_nil) (pe_slice (sl_tupK K) (pv 0) (po_some pe_int) po_none)))), ?_⟩
  try dsimp only [L2.cxOf, L2.Cx.nox]
  obtain ⟨p, items, rfl, hp, hk⟩ := hs.node
  walk_at "rd"
  refine rd_ixT (sqT hp) (atI_nat (j := 0) rfl) ?_
  walk_at "rd"
  refine rd_two (fun c => ?_) (fun c => ?_)
  · rcases hk with ⟨x, rfl, rfl⟩ | ⟨hu, hks⟩
    · walk_at "rd"
      exact ⟨Nat.zero_le _, fun t nt => q t [] _ (Same.new nt _) upd_same .nil⟩
    · exact absurd c (head_unk hu)
  · rcases hk with ⟨x, rfl, rfl⟩ | ⟨hu, hks⟩
    · exact absurd rfl c
    walk_at "rd"
    refine rd_tail (sqT hp) fun t nt => q t items _ (Same.new nt _) upd_same (hks.keep (Tk.of (Same.new nt _)))
end
def spAll : Sp := fun vs H Q _ => ∃ (s : Say) (v : V), vs = [v] ∧ SayAt H s v ∧ s.words ≤ 100000 ∧ ∀ (l : Addr) (fv : List V) (H' : Hp), Same H H' → H' l = some (.lst fv) → SaysAt H' s.all fv → Q (.ref l) H'
section
variable {P : Program} {w : World} {K : PySem.W.Frag} {mg : Str → Option Value} {base : Heap}
theorem sc_all_words : FnScope ["saying", "found", "waiting", "word"] ["saying"] (defScope s_all_words) := ⟨rfl, rfl, rfl, by decide +kernel, rfl, by decide +kernel, by decide +kernel⟩
theorem ok_all_words (T : Txt K mg) {k : Nat} : FnOk P w K mg base CX0 (k + 2) T.f_all_words T.d_all_words ["saying"] spAll := by
  refine T.F_all_words.ok sc_all_words (fun vs H Q E h => ?_) (fun cdv A outer s H vs Q E hr h => ?_)
  · obtain ⟨s, v, rfl, _⟩ := h
    rfl
  obtain ⟨s, v, rfl, hs, hw, q⟩ := h
  refine ⟨_, (pss_cons (ps_set (i := 1) sc_all_words.nd rfl (Or.inl rfl) (pe_lst pa_nil))
    (pss_cons (ps_set (i := 2) sc_all_words.nd rfl (Or.inl rfl) (pe_lst (pa_cons (pv 0) pa_nil)))
    (pss_cons (ps_while PassesOwn.never (pt_truth (pv 2) (by intro _; rfl)) (pss_cons (ps_set (i := 3) sc_all_words.nd rfl (Or.inl rfl) (pe_bm0 PySem.F.plainAttrs_list PySem.F.slot_list_pop PySem.F.type_list_pop mt_pop (pv 2)))
    (pss_cons (ps_expr (pe_bm PySem.F.plainAttrs_list PySem.F.slot_list_append PySem.F.type_list_append mt_append (pv 1) (pa_cons (pv 3) pa_nil)))
    (pss_one (ps_expr (pe_bm PySem.F.plainAttrs_list PySem.F.slot_list_extend PySem.F.type_list_extend mt_extT (pv 2) (pa_cons (pe_revT (pe_call (ok_parts_of T) hr (by rfl) T.g_parts_of T.F_parts_of.kp T.b_parts_of .nil pass0 (pa_cons (pv 3) pa_nil))) pa_nil)))))))
    (pss_one (ps_ret (pv 1)))))), ?_⟩
  try dsimp only [L2.cxOf, L2.Cx.nox]
  walk_at "rd"
  refine ⟨Nat.zero_le _, fun f nf => ?_⟩
  walk_at "rd"
  refine ⟨by show 1 ≤ sizeLine; decide, fun w nw => ?_⟩
  have s1 : Same H (upd H f (.lst [])) := Same.new nf _
  have s2 : Same H (upd (upd H f (.lst [])) w (.lst [v])) := s1.trans (Same.new nw _)
  have nwf : w ≠ f := fun z => by rw [z, upd_same] at nw; cases nw
  have nw0 : H w = none := s1.free nw
  walk_at "rd"
  refine rd_while (fun m σ' H' => ∃ (dn st : List Say) (dv sv : List V) (y : Option V), σ' = [some v, some (.ref f), some (.ref w), y] ∧ Same H H' ∧ H' f = some (.lst dv) ∧ H' w = some (.lst sv.reverse) ∧
    SaysAt H' dn dv ∧ SaysAt H' st sv ∧ dn ++ allL st = s.all ∧ m = wsum st) s.words ⟨[], [s], [], [v], none, rfl, s2, ?_, upd_same, .nil, .cons (hs.keep (Tk.of s2)) .nil, ?_, ?_⟩ ?_
  · rw [upd_ne nwf.symm, upd_same]
  · show s.all ++ [] = s.all
    exact List.append_nil _
  · show s.words = s.words + 0
    rfl
  rintro m σ' H' ⟨dn, st, dv, sv, y, rfl, sm, hf, hw', a1, a2, e1, rfl⟩
  walk_at "rd"
  refine rd_truL (sqL hw') ?_
  cases a2 with
  | nil =>
    refine iteF ?_
    walk_at "rd"
    refine q f dv H' sm hf ?_
    have e2 : dn = s.all := by rw [← e1]; exact (List.append_nil _).symm
    rw [← e2]
    exact a1
  | @cons t u ts us b1 b2 =>
    have e3 : (!(u :: us).reverse.isEmpty) = true := by
      rw [List.reverse_cons]
      cases us.reverse <;> rfl
    rw [e3]
    refine rd_go ?_
    walk_at "rd"
    refine rd_tyL (sqL hw') (rd_pop hw' ?_)
    have k1 : Tk H' (upd H' w (.lst us.reverse)) := fun p xs h => by rw [upd_ne (ne_of h hw' (fun z => nomatch z))]; exact h
    walk_at "rd"
    have hf1 : (upd H' w (.lst us.reverse)) f = some (.lst dv) := by rw [upd_ne nwf.symm]; exact hf
    have many : dn.length + wsum (t :: ts) = s.words := by
      rw [← allL_len, ← List.length_append, e1, all_len]
    have l1 := a1.length
    have l2 := b2.length
    have l3 := len_wsum ts
    have wt : wsum (t :: ts) = t.words + wsum ts := rfl
    refine rd_tyL (sqL hf1) ?_
    walk_at "rd"
    refine rd_append hf1 (by omega) ?_
    have k2 : Tk (upd H' w (.lst us.reverse)) (upd (upd H' w (.lst us.reverse)) f (.lst (dv ++ [u]))) := fun p xs h => by rw [upd_ne (ne_of h hf1 (fun z => nomatch z))]; exact h
    have sm2 : Same H (upd (upd H' w (.lst us.reverse)) f (.lst (dv ++ [u]))) := Same.put (Same.put sm nw0 _) nf _
    have hw2 : (upd (upd H' w (.lst us.reverse)) f (.lst (dv ++ [u]))) w = some (.lst us.reverse) := by rw [upd_ne nwf, upd_same]
    have hf2 : (upd (upd H' w (.lst us.reverse)) f (.lst (dv ++ [u]))) f = some (.lst (dv ++ [u])) := upd_same
    have b1' := b1.keep (k1.trans k2)
    have a1' := a1.keep (k1.trans k2)
    have b2' := b2.keep (k1.trans k2)
    generalize upd (upd H' w (.lst us.reverse)) f (.lst (dv ++ [u])) = H2 at sm2 hw2 hf2 b1' a1' b2'
    walk_at "rd"
    refine rd_tyL (sqL hw2) ?_
    walk_at "rd"
    refine ⟨t, u, rfl, b1', fun tp items H3 s3 ht hks => ?_⟩
    refine rd_revAt (sqT ht) fun r nr => ?_
    have s4 : Same H2 (upd H3 r (.tup items.reverse)) := s3.trans (Same.new nr _)
    walk_at "rd"
    have lk := hks.length
    have lk2 := kids_le t
    refine rd_extT (s4 _ _ hw2) upd_same (by rw [List.length_reverse, List.length_reverse]; omega) ?_
    have k5 : Tk (upd H3 r (.tup items.reverse)) (upd (upd H3 r (.tup items.reverse)) w (.lst (us.reverse ++ items.reverse))) := fun p xs h => by
      rw [upd_ne (ne_of h (s4 _ _ hw2) (fun z => nomatch z))]
      exact h
    have k6 := (Tk.of s4).trans k5
    refine ⟨wsum (t.kids ++ ts), ?_, dn ++ [t], t.kids ++ ts, dv ++ [u], items ++ us, some u, rfl, Same.put (sm2.trans s4) nw0 _, ?_, ?_, ?_, ?_, ?_, rfl⟩
    · rw [wsum_append, wt, words_kids t]
      omega
    · rw [upd_ne nwf.symm]
      exact s4 _ _ hf2
    · rw [upd_same, List.reverse_append]
    · exact (a1'.keep k6).append (.cons (b1'.keep k6) .nil)
    · exact ((hks.keep (Tk.of (Same.new nr _))).keep k5).append (b2'.keep k6)
    · rw [← e1, allL_append]
      show dn ++ [t] ++ (allL t.kids ++ allL ts) = dn ++ (t.all ++ allL ts)
      rw [all_kids t]
      simp
end

def spCount (f : Say → Nat) : Sp := fun vs H Q _ => ∃ (s : Say) (v : V), vs = [v] ∧ SayAt H s v ∧ s.words ≤ 100000 ∧ ∀ H' : Hp, Same H H' → Q (.int (f s : Int)) H'
section
variable {P : Program} {w : World} {K : PySem.W.Frag} {mg : Str → Option Value} {base : Heap}
theorem sc_words_in : FnScope ["saying"] ["saying"] (defScope s_words_in) := ⟨rfl, rfl, rfl, by decide +kernel, rfl, by decide +kernel, by decide +kernel⟩
theorem ok_words_in (T : Txt K mg) {k : Nat} : FnOk P w K mg base CX0 (k + 3) T.f_words_in T.d_words_in ["saying"] (spCount Say.words) := by
  refine T.F_words_in.ok sc_words_in (fun vs H Q E h => ?_) (fun cdv A outer s H vs Q E hr h => ?_)
  · obtain ⟨s, v, rfl, _⟩ := h
    rfl
  obtain ⟨s, v, rfl, hs, hw, q⟩ := h
  refine ⟨_, (pss_one (ps_ret (pe_callB (len_seqK K) (by rfl) T.z_len (by decide +kernel) (pa_cons (pe_call (ok_all_words T) hr (by rfl) T.g_all_words T.F_all_words.kp T.b_all_words .nil pass0 (pa_cons (pv 0) pa_nil)) pa_nil)))), ?_⟩
  try dsimp only [L2.cxOf, L2.Cx.nox]
  walk_at "rd"
  refine ⟨s, v, rfl, hs, hw, fun l fv H' s1 hl ha => ?_⟩
  walk_at "rd"
  refine rd_len (.inl (sqL hl)) ?_
  walk_at "rd"
  have e : fv.length = s.words := by rw [← ha.length, all_len]
  rw [e]
  exact q H' s1
theorem sc_marks_in : FnScope ["saying", "word"] ["saying"] (defScope s_marks_in) := ⟨rfl, rfl, rfl, by decide +kernel, rfl, by decide +kernel, by decide +kernel⟩
theorem ok_marks_in (T : Txt K mg) {k : Nat} : FnOk P w K mg base CX0 (k + 3) T.f_marks_in T.d_marks_in ["saying"] (spCount Say.marks) := by
  refine T.F_marks_in.ok sc_marks_in (fun vs H Q E h => ?_) (fun cdv A outer s H vs Q E hr h => ?_)
  · obtain ⟨s, v, rfl, _⟩ := h
    rfl
  obtain ⟨s, v, rfl, hs, hw, q⟩ := h
  refine ⟨_, (pss_one (ps_ret (pe_callB (len_seqK K) (by rfl) T.z_len (by decide +kernel) (pa_cons (pe_lc (own := [("word", 1)]) (g := (gName 1)) rfl sc_marks_in.nd (pi_list (pe_call (ok_all_words T) hr (by rfl) T.g_all_words T.F_all_words.kp T.b_all_words .nil pass0 (pa_cons (pv 0) pa_nil))) (blkOk_by (N := ["saying", "word"]) (sc := defScope s_marks_in) (by decide +kernel)) (fun _ _ _ _ _ => (pg_name (i := 1) sc_marks_in.nd rfl (Or.inl rfl))) (fun _ _ _ _ _ => (pts_one (pt_cmpR (in_seqK K) (pe_ix (ix_tupK K) (pv 1) pe_int (fun _ _ => rfl)) (pe_glob (v := V.ref T.a_MARKS) rfl T.c_MARKS rfl) (by rfl)))) (fun _ _ _ _ _ => (pv 1))) pa_nil)))), ?_⟩
  try dsimp only [L2.cxOf, L2.Cx.nox]
  walk_at "rd"
  refine ⟨s, v, rfl, hs, hw, fun l fv H' s1 hl ha => ?_⟩
  have many := ha.length
  rw [all_len] at many
  have at_ : ∀ i, i < fv.length → ∃ t, s.all[i]? = some t ∧ SayAt H' t (fv.getD i .non) := by
    intro i hi
    obtain ⟨t, e, h⟩ := ha.get (i := i) (v := fv[i]) (List.getElem?_eq_getElem hi)
    refine ⟨t, e, ?_⟩
    rw [List.getD_eq_getElem?_getD, List.getElem?_eq_getElem hi]
    exact h
  refine rd_atL (sqL hl) fun p4 n4 => lc_src walk_list (fun i => fv.getD i .non) ?_ (fun i => (s.all.getD i .yes).isBin) (fun i => fv.getD i .non) (by omega) n4 (fun H2 z => sqL (z _ _ hl)) (fun x => rfl) ?_ ?_ ?_
  · rintro i H0 x H2 hi ⟨rfl, e⟩
    rw [List.getD_eq_getElem?_getD, e]
    exact ⟨rfl, rfl⟩
  · intro i H2 R hi z r
    obtain ⟨t, e, h⟩ := at_ i hi
    obtain ⟨p, items, e2, hp, _⟩ := (h.keep (Tk.of z)).node
    walk_at "rd"
    rw [e2]
    refine rd_ixT (sqT hp) (atI_nat (j := 0) rfl) ?_
    walk_at "rd"
    refine rd_in (.inr (T.t_MARKS H2)) rfl rfl (in_marks t) ?_
    walk_at "rd"
    rw [List.getD_eq_getElem?_getD, e] at r
    exact r
  · intro i H2 R hi hf z r
    walk_at "rd"
    exact r H2 (Same.refl _)
  intro H4 s4 g4
  walk_at "rd"
  refine rd_len (.inl (sqL g4)) ?_
  walk_at "rd"
  have e : (Evl.given fv.length (fun i => (s.all.getD i .yes).isBin) fun i => fv.getD i .non).length = s.marks := by
    unfold Evl.given
    rw [List.length_map, many.symm, ← all_len]
    exact (count_range s.all .yes Say.isBin).trans (marks_count s)
  rw [e]
  exact q H4 (s1.trans s4)
end

section
variable {P : Program} {w : World} {K : PySem.W.Frag} {mg : Str → Option Value} {base : Heap}
/-- sayings with numbers, in new pairs -/
inductive PairsAt (H : Hp) : List (Say × Nat) → List V → Prop
  | nil : PairsAt H [] []
  | cons {s : Say} {d : Nat} {p : Addr} {v : V} {ss : List (Say × Nat)} {vs : List V} : H p = some (.tup [v, .int (d : Int)]) → SayAt H s v → PairsAt H ss vs → PairsAt H ((s, d) :: ss) (.ref p :: vs)
theorem PairsAt.keep {H H' : Hp} (t : Tk H H') : ∀ {ss : List (Say × Nat)} {vs : List V}, PairsAt H ss vs → PairsAt H' ss vs
  | _, _, .nil => .nil
  | _, _, .cons h a r => .cons (t _ _ h) (a.keep t) (r.keep t)
theorem PairsAt.length {H : Hp} : ∀ {ss : List (Say × Nat)} {vs : List V}, PairsAt H ss vs → ss.length = vs.length
  | _, _, .nil => rfl
  | _, _, .cons _ _ r => congrArg Nat.succ r.length
def psum (l : List (Say × Nat)) : Nat := wsum (l.map (·.1))
def pdeep (l : List (Say × Nat)) (g : Nat) : Nat := l.foldl (fun g p => max g (p.2 + p.1.depth)) g
theorem pdeep_max (l : List (Say × Nat)) : ∀ a b, pdeep l (max a b) = max a (pdeep l b) := by
  induction l with
  | nil => intro a b; rfl
  | cons x r ih =>
    intro a b
    show pdeep r (max (max a b) (x.2 + x.1.depth)) = max a (pdeep r (max b (x.2 + x.1.depth)))
    rw [Nat.max_assoc, ih]
theorem pdeep_append (l r : List (Say × Nat)) (g : Nat) : pdeep (l ++ r) g = pdeep r (pdeep l g) := List.foldl_append
theorem pdeep_kids (l : List Say) (d : Nat) : ∀ g, pdeep (l.map fun k => (k, d + 1)) g = max g (l.foldl (fun g k => max g (d + (k.depth + 1))) 0) := by
  induction l with
  | nil => intro g; exact (Nat.max_zero g).symm
  | cons x r ih =>
    intro g
    show pdeep (r.map fun k => (k, d + 1)) (max g (d + 1 + x.depth)) = max g (r.foldl (fun g k => max g (d + (k.depth + 1))) (max 0 (d + (x.depth + 1))))
    have fm : ∀ (l : List Say) a b, l.foldl (fun g k => max g (d + (k.depth + 1))) (max a b) = max a (l.foldl (fun g k => max g (d + (k.depth + 1))) b) := by
      intro l
      induction l with
      | nil => intro a b; rfl
      | cons y q ih => intro a b; rw [List.foldl_cons, List.foldl_cons, Nat.max_assoc, ih]
    rw [ih, Nat.max_comm 0, fm, Nat.max_assoc, show d + 1 + x.depth = d + (x.depth + 1) by omega]
theorem deep_shift (l : List Say) (d : Nat) (h : l ≠ []) : l.foldl (fun g k => max g (d + (k.depth + 1))) 0 = d + Say.deepL l := by
  have gen : ∀ (l : List Say) (g : Nat), l.foldl (fun g k => max g (d + (k.depth + 1))) (d + g) = d + l.foldl (fun g k => max g (k.depth + 1)) g := by
    intro l
    induction l with
    | nil => intro g; rfl
    | cons y q ih =>
      intro g
      show q.foldl _ (max (d + g) (d + (y.depth + 1))) = d + q.foldl _ (max g (y.depth + 1))
      rw [show max (d + g) (d + (y.depth + 1)) = d + max g (y.depth + 1) by omega, ih]
  cases l with
  | nil => exact absurd rfl h
  | cons x r =>
    show r.foldl _ (max 0 (d + (x.depth + 1))) = d + r.foldl _ (max 0 (x.depth + 1))
    rw [show max 0 (d + (x.depth + 1)) = d + max 0 (x.depth + 1) by omega, gen]
/-- one saying taken from the stack, its kids put there -/
theorem pdeep_step (s : Say) (d g : Nat) : pdeep (s.kids.map fun k => (k, d + 1)) (max g d) = max g (d + s.depth) := by
  rw [pdeep_kids, depth_kids]
  cases h : s.kids with
  | nil => show max (max g d) 0 = max g (d + 0); omega
  | cons x r =>
    rw [deep_shift _ d (List.cons_ne_nil x r)]
    have : d ≤ d + Say.deepL (x :: r) := Nat.le_add_right _ _
    omega
theorem pdeep_perm (l : List (Say × Nat)) : ∀ g, pdeep l.reverse g = pdeep l g := by
  induction l with
  | nil => intro g; rfl
  | cons x r ih =>
    intro g
    rw [List.reverse_cons, pdeep_append, ih]
    show max (pdeep r g) (x.2 + x.1.depth) = pdeep r (max g (x.2 + x.1.depth))
    rw [Nat.max_comm g, pdeep_max, Nat.max_comm]
theorem sc_depth_of : FnScope ["saying", "greatest", "waiting", "word", "depth", "part"] ["saying"] (defScope s_depth_of) := ⟨rfl, rfl, rfl, by decide +kernel, rfl, by decide +kernel, by decide +kernel⟩
theorem ok_depth_of (T : Txt K mg) {k : Nat} : FnOk P w K mg base CX0 (k + 2) T.f_depth_of T.d_depth_of ["saying"] (spCount Say.depth) := by
  refine T.F_depth_of.ok sc_depth_of (fun vs H Q E h => ?_) (fun cdv A outer s H vs Q E hr h => ?_)
  · obtain ⟨s, v, rfl, _⟩ := h
    rfl
  obtain ⟨s, v, rfl, hs, hw, q⟩ := h
  refine ⟨_, (pss_cons (ps_set (i := 1) sc_depth_of.nd rfl (Or.inl rfl) pe_int)
    (pss_cons (ps_set (i := 2) sc_depth_of.nd rfl (Or.inl rfl) (pe_lst (pa_cons (pe_tup (pa_cons (pv 0) (pa_cons pe_int pa_nil))) pa_nil)))
    (pss_cons (ps_while PassesOwn.never (pt_truth (pv 2) (by intro _; rfl)) (pss_cons (ps_asg (pe_bm0 PySem.F.plainAttrs_list PySem.F.slot_list_pop PySem.F.type_list_pop mt_pop (pv 2)) (pg_tup rfl (pgs_cons (pg_name (i := 3) sc_depth_of.nd rfl (Or.inl rfl)) (pgs_cons (pg_name (i := 4) sc_depth_of.nd rfl (Or.inl rfl)) pgs_nil))))
    (pss_cons (ps_set (i := 1) sc_depth_of.nd rfl (Or.inl rfl) (pe_callB (call_max2 rfl) (by rfl) T.z_max (by decide +kernel) (pa_cons (pv 1) (pa_cons (pv 4) pa_nil))))
    (pss_one (ps_for PassesOwn.never rfl (pi_tup (pe_call (ok_parts_of T) hr (by rfl) T.g_parts_of T.F_parts_of.kp T.b_parts_of .nil pass0 (pa_cons (pv 3) pa_nil))) (pg_name (i := 5) sc_depth_of.nd rfl (Or.inl rfl)) (pss_one (ps_expr (pe_bm PySem.F.plainAttrs_list PySem.F.slot_list_append PySem.F.type_list_append mt_append (pv 2) (pa_cons (pe_tup (pa_cons (pv 5) (pa_cons (pe_op op_add (pv 4) pe_int) pa_nil))) pa_nil)))))))))
    (pss_one (ps_ret (pv 1)))))), ?_⟩
  try dsimp only [L2.cxOf, L2.Cx.nox]
  walk_at "rd"
  refine ⟨by show 2 ≤ sizeLine; decide, fun p0 n0 => ?_⟩
  walk_at "rd"
  refine ⟨by show 1 ≤ sizeLine; decide, fun w nw => ?_⟩
  have s1 : Same H (upd H p0 (.tup [v, .int 0])) := Same.new n0 _
  have s2 : Same H (upd (upd H p0 (.tup [v, .int 0])) w (.lst [.ref p0])) := s1.trans (Same.new nw _)
  have nw0 : H w = none := s1.free nw
  walk_at "rd"
  refine rd_while (fun m σ' H' => ∃ (g : Nat) (st : List (Say × Nat)) (sv : List V) (y1 y2 y3 : Option V), σ' = [some v, some (.int (g : Int)), some (.ref w), y1, y2, y3] ∧ Same H H' ∧
    H' w = some (.lst sv.reverse) ∧ PairsAt H' st sv ∧ pdeep st g = s.depth ∧ psum st ≤ s.words ∧ m = psum st) s.words
    ⟨0, [(s, 0)], [.ref p0], none, none, none, rfl, s2, upd_same, .cons ((Same.new nw _) _ _ upd_same) (hs.keep (Tk.of s2)) .nil, ?_, ?_, ?_⟩ ?_
  · show max 0 (0 + s.depth) = s.depth
    omega
  · show s.words + 0 ≤ s.words
    exact Nat.le_refl _
  · show s.words = s.words + 0
    rfl
  rintro m σ' H' ⟨g, st, sv, y1, y2, y3, rfl, sm, hw', a2, e1, b0, rfl⟩
  walk_at "rd"
  refine rd_truL (sqL hw') ?_
  cases a2 with
  | nil =>
    refine iteF ?_
    walk_at "rd"
    have e2 : g = s.depth := e1
    rw [e2]
    exact q H' sm
  | @cons t d tp u ts us ht b1 b2 =>
    have e3 : (!(V.ref tp :: us).reverse.isEmpty) = true := by
      rw [List.reverse_cons]
      cases us.reverse <;> rfl
    rw [e3]
    refine rd_go ?_
    walk_at "rd"
    refine rd_tyL (sqL hw') (rd_pop hw' ?_)
    have k1 : Tk H' (upd H' w (.lst us.reverse)) := fun p xs h => by rw [upd_ne (ne_of h hw' (fun z => nomatch z))]; exact h
    have sm2 : Same H (upd H' w (.lst us.reverse)) := Same.put sm nw0 _
    have hw2 : (upd H' w (.lst us.reverse)) w = some (.lst us.reverse) := upd_same
    have ht' := k1 _ _ ht
    have b1' := b1.keep k1
    have b2' := b2.keep k1
    generalize upd H' w (.lst us.reverse) = H2 at sm2 hw2 ht' b1' b2'
    refine rd_gtup (sqT ht') rfl ?_
    walk_at "rd"
    refine ⟨t, u, rfl, b1', fun pp items H3 s3 hp hks => ?_⟩
    have lk := hks.length
    have lk2 := kids_le t
    have l2 := b2.length
    have l3 : ts.length ≤ psum ts := by
      have := len_wsum (ts.map (·.1))
      rw [List.length_map] at this
      exact this
    have wt : psum ((t, d) :: ts) = t.words + psum ts := rfl
    refine rd_atT (sqT hp) (forT (xs := items) (fun i σ' H' => ∃ (nv : List V) (y : Option V), σ' = [some v, some (.int ((max g d : Nat) : Int)), some (.ref w), some u, some (.int (d : Int)), y] ∧ Tk H3 H' ∧ Same H H' ∧
      H' w = some (.lst (us.reverse ++ nv)) ∧ PairsAt H' ((t.kids.take i).map fun k => (k, d + 1)) nv) ⟨[], y3, ?_, Tk.refl, sm2.trans s3, ?_, .nil⟩ (fun i σ' H' _ ⟨_, _, _, z, _⟩ => sqT (z _ _ hp)) ?_ ?_)
    · rw [← max_nat]
      rfl
    · rw [List.append_nil]
      exact s3 _ _ hw2
    · rintro i x σ' H4 hi ⟨nv, y, rfl, tk, sm4, hw4, pa⟩
      obtain ⟨kd, hkd, hat⟩ := hks.get hi
      have i1 := (List.getElem?_eq_some_iff.mp hi).1
      have i2 := pa.length
      rw [List.length_map, List.length_take] at i2
      walk_at "rd"
      refine rd_tyL (sqL hw4) ?_
      walk_at "rd"
      refine ⟨by show 2 ≤ sizeLine; decide, fun p5 n5 => ?_⟩
      have s5 : Same H4 (upd H4 p5 (.tup [x, .int ((d : Int) + 1)])) := Same.new n5 _
      walk_at "rd"
      refine rd_append (s5 _ _ hw4) (by rw [List.length_append, List.length_reverse]; omega) ?_
      have k6 : Tk (upd H4 p5 (.tup [x, .int ((d : Int) + 1)])) (upd (upd H4 p5 (.tup [x, .int ((d : Int) + 1)])) w (.lst (us.reverse ++ nv ++ [.ref p5]))) := fun p xs h => by
        rw [upd_ne (ne_of h (s5 _ _ hw4) (fun z => nomatch z))]
        exact h
      have k7 := (Tk.of s5).trans k6
      refine ⟨nv ++ [.ref p5], some x, rfl, tk.trans k7, Same.put (sm4.trans s5) nw0 _, ?_, ?_⟩
      · rw [upd_same, List.append_assoc]
      · rw [List.take_add_one, hkd, List.map_append]
        have more : ∀ {ss : List (Say × Nat)} {vs : List V} {H5 : Hp} {q : Say × Nat} {w5 : V}, PairsAt H5 ss vs → PairsAt H5 [q] [w5] → PairsAt H5 (ss ++ [q]) (vs ++ [w5]) := by
          intro ss vs H5 q w5 h1 h2
          induction h1 with
          | nil => exact h2
          | cons a b c ih => exact .cons a b ih
        exact more (pa.keep k7) (.cons (k6 _ _ upd_same) ((hat.keep tk).keep k7) .nil)
    · rintro σ' H4 ⟨nv, y, rfl, tk, sm4, hw4, pa⟩
      rw [← lk, List.take_length] at pa
      have pr : PairsAt H4 ((t.kids.map fun k => (k, d + 1)).reverse ++ ts) (nv.reverse ++ us) := by
        have app : ∀ {ss tt : List (Say × Nat)} {vs ws : List V}, PairsAt H4 ss vs → PairsAt H4 tt ws → PairsAt H4 (ss ++ tt) (vs ++ ws) := by
          intro ss tt vs ws h1 h2
          induction h1 with
          | nil => exact h2
          | cons a b c ih => exact .cons a b ih
        have rev : ∀ {ss : List (Say × Nat)} {vs : List V}, PairsAt H4 ss vs → PairsAt H4 ss.reverse vs.reverse := by
          intro ss vs h1
          induction h1 with
          | nil => exact .nil
          | cons a b c ih =>
            rw [List.reverse_cons, List.reverse_cons]
            exact app ih (.cons a b .nil)
        exact app (rev pa) (b2'.keep ((Tk.of s3).trans tk))
      have es : psum ((t.kids.map fun k => (k, d + 1)).reverse ++ ts) = wsum t.kids + psum ts := by
        unfold psum
        rw [List.map_append, wsum_append, List.map_reverse, List.map_map]
        have e9 : ((fun x : Say × Nat => x.1) ∘ fun k => (k, d + 1)) = id := rfl
        rw [e9, List.map_id]
        congr 1
        unfold wsum
        rw [List.map_reverse, List.sum_reverse]
      refine ⟨psum ((t.kids.map fun k => (k, d + 1)).reverse ++ ts), ?_, max g d, _, nv.reverse ++ us, _, _, _, rfl, sm4, ?_, pr, ?_, ?_, rfl⟩
      · rw [es, wt, words_kids t]
        omega
      · rw [List.reverse_append, List.reverse_reverse]
        exact hw4
      · rw [pdeep_append, pdeep_perm, pdeep_step]
        exact e1
      · rw [es]
        rw [wt, words_kids t] at b0
        omega
end

def spOcc : Sp := fun vs H Q _ => ∃ (s : Say) (v : V) (x : Str), vs = [v, .str x] ∧ SayAt H s v ∧ s.words ≤ 100000 ∧ ∀ H' : Hp, Same H H' → Q (.int ((s.all.filter (atName x)).length : Int)) H'
section
variable {P : Program} {w : World} {K : PySem.W.Frag} {mg : Str → Option Value} {base : Heap}
theorem sc_occurrences : FnScope ["saying", "name", "word"] ["saying", "name"] (defScope s_occurrences) := ⟨rfl, rfl, rfl, by decide +kernel, rfl, by decide +kernel, by decide +kernel⟩
theorem ok_occurrences (T : Txt K mg) {k : Nat} : FnOk P w K mg base CX0 (k + 3) T.f_occurrences T.d_occurrences ["saying", "name"] spOcc := by
  refine T.F_occurrences.ok sc_occurrences (fun vs H Q E h => ?_) (fun cdv A outer s H vs Q E hr h => ?_)
  · obtain ⟨s, v, x, rfl, _⟩ := h
    rfl
  obtain ⟨s, v, x, rfl, hs, hw, q⟩ := h
  refine ⟨_, (pss_one (ps_ret (pe_callB (len_seqK K) (by rfl) T.z_len (by decide +kernel) (pa_cons (pe_lc (own := [("word", 2)]) (g := (gName 2)) rfl sc_occurrences.nd (pi_list (pe_call (ok_all_words T) hr (by rfl) T.g_all_words T.F_all_words.kp T.b_all_words .nil pass0 (pa_cons (pv 0) pa_nil))) (blkOk_by (N := ["saying", "name", "word"]) (sc := defScope s_occurrences) (by decide +kernel)) (fun _ _ _ _ _ => (pg_name (i := 2) sc_occurrences.nd rfl (Or.inl rfl))) (fun _ _ _ _ _ => (pts_one (PW.pt (pw_and (pt_cmpR op_eq (pe_ix (ix_tupK K) (pv 2) pe_int (fun _ _ => rfl)) pe_str (by rfl)) (pw_and1 (pt_cmpR op_eq (pe_ix (ix_tupK K) (pv 2) pe_int (fun _ _ => rfl)) (pv 1) (by rfl))))))) (fun _ _ _ _ _ => (pv 2))) pa_nil)))), ?_⟩
  try dsimp only [L2.cxOf, L2.Cx.nox]
  walk_at "rd"
  refine ⟨s, v, rfl, hs, hw, fun l fv H' s1 hl ha => ?_⟩
  have many := ha.length
  rw [all_len] at many
  have at_ : ∀ i, i < fv.length → ∃ t, s.all[i]? = some t ∧ SayAt H' t (fv.getD i .non) := by
    intro i hi
    obtain ⟨t, e, h⟩ := ha.get (i := i) (v := fv[i]) (List.getElem?_eq_getElem hi)
    refine ⟨t, e, ?_⟩
    rw [List.getD_eq_getElem?_getD, List.getElem?_eq_getElem hi]
    exact h
  refine rd_atL (sqL hl) fun p4 n4 => lc_src walk_list (fun i => fv.getD i .non) ?_ (fun i => atName x (s.all.getD i .yes)) (fun i => fv.getD i .non) (by omega) n4 (fun H2 z => sqL (z _ _ hl)) (fun x => rfl) ?_ ?_ ?_
  · rintro i H0 y H2 hi ⟨rfl, e⟩
    rw [List.getD_eq_getElem?_getD, e]
    exact ⟨rfl, rfl⟩
  · intro i H2 R hi z r
    obtain ⟨t, e, h⟩ := at_ i hi
    obtain ⟨p, items, e2, hp, hk⟩ := (h.keep (Tk.of z)).node
    rw [List.getD_eq_getElem?_getD, e] at r
    walk_at "rd"
    rw [e2]
    refine rd_ixT (sqT hp) (atI_nat (j := 0) rfl) ?_
    walk_at "rd"
    rcases hk with ⟨y, rfl, rfl⟩ | ⟨hu, _⟩
    · refine rd_true (by rfl) ?_
      walk_at "rd"
      refine rd_ixT (sqT hp) (atI_nat (j := 1) rfl) ?_
      walk_at "rd"
      have e3 : decide (V.str y = V.str x) = atName x (.unk y) := by
        show _ = decide (y = x)
        by_cases c : y = x
        · rw [decide_eq_true c, c, decide_eq_true rfl]
        · rw [decide_eq_false c, decide_eq_false (fun z => c (V.str.inj z))]
      rw [e3]
      exact r
    · refine rd_false (head_unk hu) ?_
      have e3 : atName x t = false := by
        cases t with
        | unk y => cases hu
        | _ => rfl
      have r' : R (atName x t) H2 := r
      rw [e3] at r'
      exact r'
  · intro i H2 R hi hf z r
    walk_at "rd"
    exact r H2 (Same.refl _)
  intro H4 s4 g4
  walk_at "rd"
  refine rd_len (.inl (sqL g4)) ?_
  walk_at "rd"
  have e : (Evl.given fv.length (fun i => atName x (s.all.getD i .yes)) fun i => fv.getD i .non).length = (s.all.filter (atName x)).length := by
    unfold Evl.given
    rw [List.length_map, many.symm, ← all_len]
    exact count_range s.all .yes (atName x)
  rw [e]
  exact q H4 (s1.trans s4)
end

/-! ### the unknowns of several -/
def addW (f : List Str) : Say → List Str
  | .unk x => if x ∈ f then f else f ++ [x]
  | _ => f
theorem fold_addW : ∀ (s : Say) (f : List Str), s.all.foldl addW f = s.namesIn f
  | .unk x, f => rfl
  | .yes, f => rfl
  | .no, f => rfl
  | .not a, f => fold_addW a f
  | .bin k a b, f => by
    show (a.all ++ b.all).foldl addW f = b.namesIn (a.namesIn f)
    rw [List.foldl_append, fold_addW a, fold_addW b]
def dnames (f : List Str) : List (Key × V) := f.map fun x => (.inr x, .bl true)
theorem put_names (f : List Str) (x : Str) : putK (dnames f) (.inr x) (.bl true) = dnames (addW f (.unk x)) := by
  have e : ((dnames f).any fun kv => decide (kv.1 = .inr x)) = decide (x ∈ f) := by
    unfold dnames
    rw [List.any_map]
    induction f with
    | nil => rfl
    | cons y r ih =>
      rw [List.any_cons, ih]
      show (decide ((Sum.inr y : Key) = .inr x) || decide (x ∈ r)) = decide (x ∈ y :: r)
      by_cases c : x = y
      · subst c
        simp
      · have c' : ¬ (Sum.inr y : Key) = .inr x := fun z => c (Sum.inr.inj z).symm
        rw [decide_eq_false c', Bool.false_or]
        simp [c]
  unfold putK
  rw [e]
  show _ = dnames (if x ∈ f then f else f ++ [x])
  by_cases c : x ∈ f
  · rw [decide_eq_true c, if_pos rfl, if_pos c]
    unfold dnames
    rw [List.map_map]
    refine List.map_congr_left fun y _ => ?_
    show (if (Sum.inr y : Key) = .inr x then (Sum.inr y, V.bl true) else (Sum.inr y, V.bl true)) = (Sum.inr y, V.bl true)
    split <;> rfl
  · rw [decide_eq_false c, if_neg c, if_neg (by decide)]
    unfold dnames
    rw [List.map_append]
    rfl
theorem addW_len (s : Say) (f : List Str) : (addW f s).length ≤ f.length + 1 := by
  cases s with
  | unk x =>
    show (if x ∈ f then f else f ++ [x]).length ≤ f.length + 1
    split
    · omega
    · simp
  | _ => exact Nat.le_succ _
theorem fold_addW_len (l : List Say) : ∀ f, (l.foldl addW f).length ≤ f.length + l.length := by
  induction l with
  | nil => intro f; exact Nat.le_refl _
  | cons x r ih =>
    intro f
    have h1 := ih (addW f x)
    have h2 := addW_len x f
    show (r.foldl addW (addW f x)).length ≤ f.length + (r.length + 1)
    omega
theorem fold_addW_more {l : List Say} {i : Nat} {k : Say} (h : l[i]? = some k) (f : List Str) : (l.take (i + 1)).foldl addW f = addW ((l.take i).foldl addW f) k := by
  rw [List.take_add_one, h, List.foldl_append]
  rfl
theorem names_keys (f : List Str) : (dnames f).map (fun kv => kV kv.1) = f.map V.str := by
  unfold dnames
  rw [List.map_map]
  rfl
def spUnknowns (K : PySem.W.Frag) : Sp := fun vs H Q _ => ∃ (a : Addr) (xs : List V) (ss : List Say), vs = [.ref a] ∧ SqT K H a xs ∧ SaysAt H ss xs ∧ wsum ss ≤ 100000 ∧
  ∀ (r : Addr) (H' : Hp), Same H H' → H' r = some (.tup ((foldNames ss []).map V.str)) → Q (.ref r) H'
section
variable {P : Program} {w : World} {K : PySem.W.Frag} {mg : Str → Option Value} {base : Heap}
theorem sc_unknowns_of : FnScope ["sayings", "found", "saying", "word"] ["sayings"] (defScope s_unknowns_of) := ⟨rfl, rfl, rfl, by decide +kernel, rfl, by decide +kernel, by decide +kernel⟩
theorem ok_unknowns_of (T : Txt K mg) {k : Nat} : FnOk P w K mg base CX0 (k + 3) T.f_unknowns_of T.d_unknowns_of ["sayings"] (spUnknowns K) := by
  refine T.F_unknowns_of.ok sc_unknowns_of (fun vs H Q E h => ?_) (fun cdv A outer s H vs Q E hr h => ?_)
  · obtain ⟨a, xs, ss, rfl, _⟩ := h
    rfl
  obtain ⟨a, xs, ss, rfl, ha, hss, hw, q⟩ := h
  refine ⟨_, (pss_cons (ps_set (i := 1) sc_unknowns_of.nd rfl (Or.inl rfl) pe_dnewK)
    (pss_cons (ps_for PassesOwn.never rfl (pi_tup (pv 0)) (pg_name (i := 2) sc_unknowns_of.nd rfl (Or.inl rfl)) (pss_one (ps_for PassesOwn.never rfl (pi_list (pe_call (ok_all_words T) hr (by rfl) T.g_all_words T.F_all_words.kp T.b_all_words .nil pass0 (pa_cons (pv 2) pa_nil))) (pg_name (i := 3) sc_unknowns_of.nd rfl (Or.inl rfl)) (pss_one (ps_if (pt_cmpR op_eq (pe_ix (ix_tupK K) (pv 3) pe_int (fun _ _ => rfl)) pe_str (by rfl)) (pss_one (ps_dput (hu_of hr) (pv 1) (pe_ix (ix_tupK K) (pv 3) pe_int (fun _ _ => rfl)) pe_bl rfl)) pss_nil)))))
    (pss_one (ps_ret (pe_callTy (tuple_ofK K) (by rfl) T.z_tuple (by decide +kernel) (pa_cons (pe_callTy (call_list_dK rfl) (by rfl) T.z_list (by decide +kernel) (pa_cons (pv 1) pa_nil)) pa_nil)))))), ?_⟩
  try dsimp only [L2.cxOf, L2.Cx.nox]
  walk_at "rd"
  intro d nd
  have s0 : Same H (upd H d (.dK [])) := Same.new nd _
  walk_at "rd"
  refine rd_atT (s0.seqT ha) (forT (xs := xs) (fun i σ H' => ∃ (y1 y2 : Option V), σ = [some (.ref a), some (.ref d), y1, y2] ∧ Same H H' ∧
    H' d = some (.dK (dnames (foldNames (ss.take i) [])))) ⟨none, none, rfl, s0, upd_same⟩ (fun i σ H' _ ⟨_, _, _, z, _⟩ => z.seqT ha) ?_ ?_)
  · rintro i x σ H' hi ⟨y1, y2, rfl, z, hd⟩
    obtain ⟨sy, hsy, hat⟩ := hss.get hi
    have w1 := wsum_take hsy
    have w2 := fold_len (ss.take i) []
    rw [List.length_nil] at w2
    walk_at "rd"
    refine ⟨sy, x, rfl, hat.keep (Tk.of z), by omega, fun l fv H2 s2 hl hfv => ?_⟩
    have many := hfv.length
    rw [all_len] at many
    refine rd_atL (sqL hl) (forL (xs := fv) (fun j σ H3 => ∃ (y2 : Option V), σ = [some (.ref a), some (.ref d), some x, y2] ∧ Same H H3 ∧ Tk H2 H3 ∧ H3 l = some (.lst fv) ∧
      H3 d = some (.dK (dnames ((sy.all.take j).foldl addW (foldNames (ss.take i) []))))) ⟨y2, rfl, z.trans s2, Tk.refl, hl, s2 _ _ hd⟩ (fun i σ H' _ ⟨_, _, _, _, z, _⟩ => sqL z) ?_ ?_)
    · rintro j u σ H3 hj ⟨y2', rfl, z3, t3, hl3, hd3⟩
      obtain ⟨t, ht, hut⟩ := hfv.get hj
      obtain ⟨p, items, rfl, hp, hk⟩ := (hut.keep t3).node
      have jl : j < sy.all.length := (List.getElem?_eq_some_iff.mp ht).1
      have w4 := fold_addW_len (sy.all.take j) (foldNames (ss.take i) [])
      rw [List.length_take, all_len] at w4
      walk_at "rd"
      refine rd_ixT (sqT hp) (atI_nat (j := 0) rfl) ?_
      walk_at "rd"
      refine rd_two (fun c => ?_) (fun c => ?_)
      · rcases hk with ⟨y, rfl, rfl⟩ | ⟨hu, _⟩
        · walk_at "rd"
          refine rd_ixT (sqT hp) (atI_nat (j := 1) rfl) ?_
          refine rd_dputK hd3 (put_names _ y) (by unfold dnames; rw [List.length_map]; omega) ?_
          refine ⟨_, rfl, z3.put nd _, t3.trans (Tk.kp (Kp.at _) hd3), ?_, ?_⟩
          · rw [upd_ne (ne_of hl3 hd3 (fun z => nomatch z))]
            exact hl3
          · rw [fold_addW_more ht]
            exact upd_same
        · exact absurd c (head_unk hu)
      · walk_at "rd"
        refine ⟨_, rfl, z3, t3, hl3, ?_⟩
        rw [fold_addW_more ht]
        rcases hk with ⟨y, rfl, rfl⟩ | ⟨hu, _⟩
        · exact absurd rfl c
        · have e : ∀ f, addW f t = f := by
            intro f
            cases t with
            | unk y => cases hu
            | _ => rfl
          rw [e]
          exact hd3
    · rintro σ H3 ⟨y2', rfl, z3, t3, hl3, hd3⟩
      walk_at "rd"
      refine ⟨_, _, rfl, z3, ?_⟩
      rw [fold_more hsy, ← fold_addW]
      rw [hd3, ← hfv.length, List.take_length]
  · rintro σ H' ⟨y1, y2, rfl, z, hd⟩
    walk_at "rd"
    refine ⟨d, _, rfl, hd, fun l nl => ?_⟩
    walk_at "rd"
    refine ⟨l, _, rfl, .inl ⟨sqL upd_same, fun r nr => ?_⟩⟩
    refine q r _ ((z.trans (Same.new nl _)).trans (Same.new nr _)) ?_
    rw [upd_same, names_keys, ← hss.length, List.take_length]
end

/-! ### whether all numbers of a saying are told -/
def spRight : Sp := fun vs H Q _ => ∃ (s : Say) (v : V) (a : Addr) (fs : List Str), vs = [v, .ref a] ∧ SayAt H s v ∧ H a = some (.lst (fs.map V.str)) ∧ s.depth ≤ 62 ∧ s.words ≤ 10000 ∧ fs.length ≤ 100 ∧
  ∀ H' : Hp, Same H H' → Q (.bl true) H'
section
variable {P : Program} {w : World} {K : PySem.W.Frag} {mg : Str → Option Value} {base : Heap}
theorem sc_law_right : FnScope ["saying", "names", "found", "deep", "leaves", "marks", "name", "word", "leaf"] ["saying", "names"] (defScope s_law_right) := ⟨rfl, rfl, rfl, by decide +kernel, rfl, by decide +kernel, by decide +kernel⟩
theorem ok_law_right (T : Txt K mg) {k : Nat} : FnG P w K mg base CX0 (k + 65) T.f_law_right T.d_law_right ["saying", "names"] spRight := by
  refine okG T.F_law_right sc_law_right (fun vs H Q E h => ?_) (fun cdv A outer s H vs Q E hr gd h => ?_)
  · obtain ⟨s, v, a, fs, rfl, _⟩ := h
    rfl
  obtain ⟨s, v, a, fs, rfl, hs, ha, hd, hw, hf, q⟩ := h
  refine ⟨_, (pss_cons (ps_asg (pe_call (ok_law_words_n T 64) hr (by rfl) T.g_law_words T.F_law_words.kp T.b_law_words .nil pass0 (pa_cons (pv 0) pa_nil)) (pg_tup rfl (pgs_cons (pg_name (i := 2) sc_law_right.nd rfl (Or.inl rfl)) (pgs_cons (pg_name (i := 3) sc_law_right.nd rfl (Or.inl rfl)) pgs_nil))))
    (pss_cons (ps_set (i := 4) sc_law_right.nd rfl (Or.inl rfl) (pe_call (ok_law_leaves_n T 64) hr (by rfl) T.g_law_leaves T.F_law_leaves.kp T.b_law_leaves .nil pass0 (pa_cons (pv 0) pa_nil)))
    (pss_cons (ps_set (i := 5) sc_law_right.nd rfl (Or.inl rfl) (pe_callB (len_seqK K) (by rfl) T.z_len (by decide +kernel) (pa_cons (pe_lc (own := [("word", 7)]) (g := (gName 7)) rfl sc_law_right.nd (pi_list (pv 2)) (blkOk_by (N := ["saying", "names", "found", "deep", "leaves", "marks", "name", "word", "leaf"]) (sc := defScope s_law_right) (by decide +kernel)) (fun _ _ _ _ _ => (pg_name (i := 7) sc_law_right.nd rfl (Or.inl rfl))) (fun _ _ _ _ _ => (pts_one (pt_cmpR (in_seqK K) (pv 7) (pe_tup (pa_cons pe_str (pa_cons pe_str (pa_cons pe_str (pa_cons pe_str (pa_cons pe_str (pa_cons pe_str pa_nil))))))) (by rfl)))) (fun _ _ _ _ _ => (pv 7))) pa_nil)))
    (pss_cons (ps_if (pt_cmpR op_ne (pe_callB (reprK K gd hr) (by rfl) T.z_repr (by decide +kernel) (pa_cons (pe_tup (pa_cons (pe_call (ok_words_in T) hr (by rfl) T.g_words_in T.F_words_in.kp T.b_words_in .nil pass0 (pa_cons (pv 0) pa_nil)) (pa_cons (pe_call (ok_depth_of T) hr (by rfl) T.g_depth_of T.F_depth_of.kp T.b_depth_of .nil pass0 (pa_cons (pv 0) pa_nil)) (pa_cons (pe_call (ok_marks_in T) hr (by rfl) T.g_marks_in T.F_marks_in.kp T.b_marks_in .nil pass0 (pa_cons (pv 0) pa_nil)) pa_nil)))) pa_nil)) (pe_callB (reprK K gd hr) (by rfl) T.z_repr (by decide +kernel) (pa_cons (pe_tup (pa_cons (pe_callB (len_seqK K) (by rfl) T.z_len (by decide +kernel) (pa_cons (pv 2) pa_nil)) (pa_cons (pv 3) (pa_cons (pv 5) pa_nil)))) pa_nil)) (by rfl)) (pss_one (ps_ret pe_bl)) pss_nil)
    (pss_cons (ps_for PassesOwn.never rfl (pi_list (pv 1)) (pg_name (i := 6) sc_law_right.nd rfl (Or.inr rfl)) (pss_one (ps_if (pt_cmpR op_ne (pe_callB (reprK K gd hr) (by rfl) T.z_repr (by decide +kernel) (pa_cons (pe_call (ok_occurrences T) hr (by rfl) T.g_occurrences T.F_occurrences.kp T.b_occurrences .nil pass0 (pa_cons (pv 0) (pa_cons (pv 6) pa_nil))) pa_nil)) (pe_callB (reprK K gd hr) (by rfl) T.z_repr (by decide +kernel) (pa_cons (pe_callB (len_seqK K) (by rfl) T.z_len (by decide +kernel) (pa_cons (pe_lc (own := [("leaf", 8)]) (g := (gName 8)) rfl sc_law_right.nd (pi_list (pv 4)) (blkOk_by (N := ["saying", "names", "found", "deep", "leaves", "marks", "name", "word", "leaf"]) (sc := defScope s_law_right) (by decide +kernel)) (fun _ _ _ _ _ => (pg_name (i := 8) sc_law_right.nd rfl (Or.inl rfl))) (fun _ _ _ _ _ => (pts_one (pt_cmpR op_eq (pv 8) (pv 6) (by rfl)))) (fun _ _ _ _ _ => (pv 8))) pa_nil)) pa_nil)) (by rfl)) (pss_one (ps_ret pe_bl)) pss_nil)))
    (pss_one (ps_ret pe_bl))))))), ?_⟩
  try dsimp only [L2.cxOf, L2.Cx.nox]
  walk_at "rd"
  refine ⟨s, v, rfl, hs, by omega, by omega, fun t l H1 s1 ht hl => ?_⟩
  refine rd_gtup (sqT ht) rfl ?_
  walk_at "rd"
  refine ⟨s, v, rfl, hs.keep (Tk.of s1), by omega, by omega, fun l2 H2 s2 hl2 => ?_⟩
  walk_at "rd"
  have hl2' : H2 l = some (.lst (s.heads.map V.str)) := s2 _ _ hl
  have many : (s.heads.map V.str).length = s.all.length := by rw [List.length_map, heads_len, all_len]
  have at_ : ∀ i, i < (s.heads.map V.str).length → ∃ t, s.all[i]? = some t ∧ (s.heads.map V.str).getD i .non = .str t.head := by
    intro i hi
    rw [many] at hi
    refine ⟨s.all[i], List.getElem?_eq_getElem hi, ?_⟩
    unfold Say.heads
    rw [List.getD_eq_getElem?_getD, List.getElem?_map, List.getElem?_map, List.getElem?_eq_getElem hi]
    rfl
  refine rd_atL (sqL hl2') fun p4 n4 => lc_srcA walk_list (fun i => (s.heads.map V.str).getD i .non) ?_ (fun i => (s.all.getD i .yes).isBin) (fun i => (s.heads.map V.str).getD i .non) (by rw [many, all_len]; omega) n4 (fun H3 z => sqL (z _ _ hl2')) (fun x => rfl) ?_ ?_ ?_
  · rintro i H0 x H3 hi ⟨rfl, e⟩
    rw [List.getD_eq_getElem?_getD, e]
    exact ⟨rfl, rfl⟩
  · intro i H3 R hi z r
    obtain ⟨t, e, h⟩ := at_ i hi
    rw [h]
    walk_at "rd"
    refine ⟨by show 6 ≤ sizeLine; decide, fun p5 n5 => ?_⟩
    refine rd_in (.inr (sqT upd_same)) rfl rfl (in_marks t) ?_
    walk_at "rd"
    have r' := r _ (Same.new n5 (.tup marksV))
    rw [List.getD_eq_getElem?_getD, e] at r'
    exact r'
  · intro i H3 R hi hf z r
    walk_at "rd"
    exact r H3 (Same.refl _)
  intro H4 s4 g4
  walk_at "rd"
  refine rd_len (.inl (sqL g4)) ?_
  have e4 : (Evl.given (s.heads.map V.str).length (fun i => (s.all.getD i .yes).isBin) fun i => (s.heads.map V.str).getD i .non).length = s.marks := by
    unfold Evl.given
    rw [List.length_map, many]
    exact (count_range s.all .yes Say.isBin).trans (marks_count s)
  rw [e4]
  have k4 := (s1.trans s2).trans s4
  walk_at "rd"
  refine ⟨s, v, rfl, hs.keep (Tk.of k4), by omega, fun H5 s5 => ?_⟩
  walk_at "rd"
  refine ⟨s, v, rfl, hs.keep (Tk.of (k4.trans s5)), by omega, fun H6 s6 => ?_⟩
  walk_at "rd"
  refine ⟨s, v, rfl, hs.keep (Tk.of ((k4.trans s5).trans s6)), by omega, fun H7 s7 => ?_⟩
  walk_at "rd"
  refine ⟨by show 3 ≤ sizeLine; decide, fun p8 n8 => ?_⟩
  have mw := marks_le s
  have small3 : ∀ x ∈ ([(s.words : Int), (s.depth : Int), (s.marks : Int)] : List Int), x.natAbs < 10 ^ 11 := by
    intro x hx
    simp only [List.mem_cons, List.not_mem_nil, or_false] at hx
    rcases hx with rfl | rfl | rfl <;> omega
  walk_at "rd"
  refine rd_reprI [(s.words : Int), (s.depth : Int), (s.marks : Int)] upd_same small3 (by show 3 ≤ 1000000; decide) ?_
  have k8 := (((k4.trans s5).trans s6).trans s7).trans (Same.new n8 (.tup [V.int ↑s.words, V.int ↑s.depth, V.int ↑s.marks]))
  have l8 : (upd H7 p8 (HO.tup [V.int ↑s.words, V.int ↑s.depth, V.int ↑s.marks])) l = some (.lst (s.heads.map V.str)) :=
    (((s4.trans s5).trans s6).trans s7).trans (Same.new n8 _) _ _ hl2'
  have l9 : (upd H7 p8 (HO.tup [V.int ↑s.words, V.int ↑s.depth, V.int ↑s.marks])) l2 = some (.lst (s.leaves.map V.str)) :=
    (((s4.trans s5).trans s6).trans s7).trans (Same.new n8 _) _ _ hl2
  generalize upd H7 p8 (HO.tup [V.int ↑s.words, V.int ↑s.depth, V.int ↑s.marks]) = H8 at k8 l8 l9
  walk_at "rd"
  refine rd_len (.inl (sqL l8)) ?_
  rw [List.length_map, heads_len]
  walk_at "rd"
  refine ⟨by show 3 ≤ sizeLine; decide, fun p9 n9 => ?_⟩
  walk_at "rd"
  refine rd_reprI [(s.words : Int), (s.depth : Int), (s.marks : Int)] upd_same small3 (by show 3 ≤ 1000000; decide) ?_
  have s9 := Same.new n9 (.tup [V.int ↑s.words, V.int ↑s.depth, V.int ↑s.marks])
  walk_at "rd"
  refine rd_neq ?_
  walk_at "rd"
  have a9 : (upd H8 p9 (HO.tup [V.int ↑s.words, V.int ↑s.depth, V.int ↑s.marks])) a = some (.lst (fs.map V.str)) := s9 _ _ (k8 _ _ ha)
  have m9 := s9 _ _ l9
  have k9 := k8.trans s9
  generalize upd H8 p9 (HO.tup [V.int ↑s.words, V.int ↑s.depth, V.int ↑s.marks]) = H9 at a9 m9 k9
  refine rd_atL (sqL a9) (forL (xs := fs.map V.str) (fun i σ H' => ∃ (y : Option V), σ = [some v, some (.ref a), some (.ref l), some (.int (s.depth : Int)), some (.ref l2), some (.int (s.marks : Int)), y, none, none] ∧ Same H9 H')
    ⟨none, rfl, Same.refl _⟩ (fun i σ H' _ ⟨_, _, z⟩ => sqL (z _ _ a9)) ?_ ?_)
  · rintro i x σ H' hi ⟨y, rfl, z⟩
    obtain ⟨f, hfi, rfl⟩ : ∃ f, fs[i]? = some f ∧ x = .str f := by
      rw [List.getElem?_map] at hi
      cases hz : fs[i]? with
      | none => rw [hz] at hi; cases hi
      | some f => rw [hz] at hi; exact ⟨f, rfl, (Option.some.inj hi).symm⟩
    have c1 : (s.all.filter (atName f)).length ≤ s.words := by
      rw [← all_len]
      exact List.length_filter_le _ _
    walk_at "rd"
    refine ⟨s, v, f, rfl, hs.keep (Tk.of (k9.trans z)), by omega, fun HA sA => ?_⟩
    walk_at "rd"
    refine rd_repr1 (by omega) ?_
    walk_at "rd"
    have zA : Same H9 HA := z.trans sA
    have lA : HA l2 = some (.lst (s.leaves.map V.str)) := zA _ _ m9
    have lv : (s.leaves.map V.str).length = s.leaves.length := List.length_map _
    have atl : ∀ i, i < (s.leaves.map V.str).length → (s.leaves.map V.str).getD i .non = .str (s.leaves.getD i "") := by
      intro i hi
      rw [lv] at hi
      rw [List.getD_eq_getElem?_getD, List.getD_eq_getElem?_getD, List.getElem?_map, List.getElem?_eq_getElem hi]
      rfl
    have ll := leaves_len s
    refine rd_atL (sqL lA) fun pB nB => lc_src walk_list (fun i => (s.leaves.map V.str).getD i .non) ?_ (fun i => decide (s.leaves.getD i "" = f)) (fun i => (s.leaves.map V.str).getD i .non) (by rw [lv]; omega) nB (fun H3 z => sqL (z _ _ lA)) (fun x => rfl) ?_ ?_ ?_
    · rintro i H0 x H3 hi ⟨rfl, e⟩
      rw [List.getD_eq_getElem?_getD, e]
      exact ⟨rfl, rfl⟩
    · intro i H3 R hi z r
      rw [atl i hi]
      walk_at "rd"
      have e3 : decide (V.str (s.leaves.getD i "") = V.str f) = decide (s.leaves.getD i "" = f) := by
        by_cases c : s.leaves.getD i "" = f
        · rw [decide_eq_true c, c, decide_eq_true rfl]
        · rw [decide_eq_false c, decide_eq_false (fun z => c (V.str.inj z))]
      rw [e3]
      exact r
    · intro i H3 R hi hf z r
      walk_at "rd"
      exact r H3 (Same.refl _)
    intro HB sB gB
    walk_at "rd"
    refine rd_len (.inl (sqL gB)) ?_
    have eB : (Evl.given (s.leaves.map V.str).length (fun i => decide (s.leaves.getD i "" = f)) fun i => (s.leaves.map V.str).getD i .non).length = (s.all.filter (atName f)).length := by
      unfold Evl.given
      rw [List.length_map, lv]
      exact (count_range s.leaves "" fun y => decide (y = f)).trans (filter_leaves f s)
    rw [eB]
    walk_at "rd"
    refine rd_repr1 (by omega) ?_
    walk_at "rd"
    refine rd_neq ?_
    walk_at "rd"
    exact ⟨_, rfl, zA.trans sB⟩
  · rintro σ H' ⟨y, rfl, z⟩
    walk_at "rd"
    exact q H' (k9.trans z)
end

/-! ### the law -/
def everyS : List Str := ["x", "y", "z", "a1", "p0q", "notx", "yess", "w", "abcdefgh"]
theorem every_ok : ∀ x ∈ everyS, okName x := by
  unfold okName everyS
  decide +kernel
theorem cut_hi (fs : List Str) (n : Nat) : cutV (fs.map V.str) none (some (n : Int)) = (fs.take n).map V.str := by
  unfold cutV
  rw [HT.sIx_none, HT.sIx_nat, List.drop_zero, List.map_take, Nat.sub_zero, List.length_map]
  by_cases h : n ≤ fs.length
  · rw [Nat.min_eq_left h]
  · rw [Nat.min_eq_right (by omega), List.take_of_length_le (by rw [List.length_map]; omega), List.take_of_length_le (by rw [List.length_map]; omega)]
theorem cut_lo (fs : List Str) (n : Nat) : cutV (fs.map V.str) (some (n : Int)) none = (fs.drop n).map V.str := by
  unfold cutV
  rw [HT.sIx_none, HT.sIx_nat, List.map_drop, List.length_map]
  by_cases h : n ≤ fs.length
  · rw [Nat.min_eq_left h, List.take_of_length_le (by rw [List.length_drop, List.length_map]; exact Nat.le_refl _)]
  · rw [Nat.min_eq_right (by omega), List.drop_eq_nil_of_le (show (fs.map V.str).length ≤ n by rw [List.length_map]; omega), List.drop_eq_nil_of_le (show (fs.map V.str).length ≤ fs.length by rw [List.length_map]; exact Nat.le_refl _), List.take_nil]
theorem Tk.lst {H : Hp} {a : Addr} {xs ys : List V} (h : H a = some (.lst xs)) : Tk H (upd H a (.lst ys)) := fun p us e => by
  rw [upd_ne (ne_of e h (fun z => nomatch z))]
  exact e
theorem MAt.beside {H : Hp} {m a : Addr} {n : Nat} {ss : List Say} {vs : List V} (h : MAt H m n) (ha : H a = some (.lst vs)) (hs : SaysAt H ss vs) (o : HO) : MAt (L2.upd H a o) m n := by
  obtain ⟨l, s, p, c, cs, a1, a2, a3, r⟩ := h
  refine ⟨l, s, p, c, cs, ?_, ?_, a3, r⟩
  · rw [upd_ne (ne_of a1 ha (fun z => nomatch z))]
    exact a1
  · rw [upd_ne (ne_of a2 ha ?_)]
    · exact a2
    · intro z
      have e : cs.map V.int = vs := HO.lst.inj z
      cases cs with
      | nil => exact a3 rfl
      | cons y r =>
        subst e
        cases hs with
        | cons h _ =>
          obtain ⟨_, _, e, _⟩ := h.node
          cases e
theorem eqv_nil (ds : List PyData) : (PyData.list ds).eqv (.list []) = ds.isEmpty := by
  rw [PyData.eqv]
  cases ds <;> rfl
def SaysOk (d w : Nat) (ss : List Say) : Prop := ∀ s ∈ ss, (∀ x ∈ s.leaves, okName x) ∧ s.depth ≤ d ∧ s.words ≤ w
theorem says_last {H : Hp} : ∀ {tt : List Say} {s : Say} {vs : List V}, SaysAt H (tt ++ [s]) vs → ∃ ws u, vs = ws ++ [u] ∧ SaysAt H tt ws ∧ SayAt H s u
  | [], s, _, .cons a .nil => ⟨[], _, rfl, .nil, a⟩
  | x :: r, s, _, .cons (v := v) a b => by
    obtain ⟨ws, u, rfl, h1, h2⟩ := says_last (tt := r) (s := s) b
    exact ⟨v :: ws, u, rfl, .cons a h1, h2⟩
theorem ne_says {H : Hp} {a e : Addr} {fs : List Str} {ss : List Say} {vs : List V} (h1 : H e = some (.lst (fs.map V.str))) (hf : fs ≠ []) (ha : H a = some (.lst vs)) (hs : SaysAt H ss vs) : e ≠ a := by
  refine ne_of h1 ha fun z => ?_
  have e : fs.map V.str = vs := HO.lst.inj z
  cases fs with
  | nil => exact hf rfl
  | cons y r =>
    subst e
    cases hs with
    | cons h _ =>
      obtain ⟨_, _, e, _⟩ := h.node
      cases e
theorem ixN_last {α : Type} (xs : List α) (v : α) : ixN (xs ++ [v]).length (-1) = some xs.length := by
  have hl : (xs ++ [v]).length = xs.length + 1 := by simp
  unfold ixN
  rw [hl, if_neg (by decide), if_pos (by omega)]
  congr 1
  omega
theorem rd_gsub {to ti : TE} {t : TSet} {v : V} {σ : L2.St} {H : Hp} {Q : L2.St → Hp → Prop} (h : to σ H fun x H1 => ti σ H1 fun y H2 => t x y v H2 (Q σ)) : gSub to ti t v σ H Q := h
theorem rd_setL {a : Addr} {ws : List V} {u v : V} {H : Hp} {Q : Hp → Prop} (h : H a = some (.lst (ws ++ [u]))) (q : Q (upd H a (.lst (ws ++ [v])))) : rSetL (.ref a) (.int (-1)) v H Q := by
  refine ⟨a, ws ++ [u], -1, ws.length, rfl, rfl, h, ixN_last ws u, ?_⟩
  have e : (ws ++ [u]).set ws.length v = ws ++ [v] := by simp
  rw [e]
  exact q
def spLaw (K : PySem.W.Frag) : Sp := fun vs H Q _ => ∃ (a : Addr) (ns : List Int), vs = [.ref a] ∧ SqL K H a (ns.map V.int) ∧ ns.length ≤ 63 ∧ (∀ z ∈ ns, Builtin.Int.intBits z ≤ 1048576) ∧ ∀ H' : Hp, Q (.bl true) H'
section
variable {P : Program} {w : World} {K : PySem.W.Frag} {mg : Str → Option Value} {base : Heap}
theorem sc_law : FnScope ["script", "m", "every", "names", "sayings", "turn", "top", "saying", "due", "handed"] ["script"] (defScope s_law) := ⟨rfl, rfl, rfl, by decide +kernel, rfl, by decide +kernel, by decide +kernel⟩
theorem ok_law (T : Txt K mg) {k : Nat} {f : Addr} {fd : FuncData} (F : Fun K "law" "law" s_law f fd) : FnG P w K mg base CX0 (k + 66) f fd ["script"] (spLaw K) := by
  refine okG F sc_law (fun vs H Q E h => ?_) (fun cdv A outer s H vs Q E hr gd h => ?_)
  · obtain ⟨a, ns, rfl, _⟩ := h
    rfl
  obtain ⟨a, ns, rfl, ha, hl, hb, q⟩ := h
  refine ⟨_, (pss_cons (ps_set (i := 1) sc_law.nd rfl (Or.inl rfl) (pe_call (ok_law_begun T) hr (by rfl) T.g_law_begun T.F_law_begun.kp T.b_law_begun .nil pass0 (pa_cons (pv 0) (pa_cons pe_int pa_nil))))
    (pss_cons (ps_set (i := 2) sc_law.nd rfl (Or.inl rfl) (pe_lst (pa_cons pe_str (pa_cons pe_str (pa_cons pe_str (pa_cons pe_str (pa_cons pe_str (pa_cons pe_str (pa_cons pe_str (pa_cons pe_str (pa_cons pe_str pa_nil)))))))))))
    (pss_cons (ps_set (i := 3) sc_law.nd rfl (Or.inl rfl) (pe_slice (sl_listK K) (pv 2) po_none (po_some (pe_op op_add pe_int (pe_call (ok_law_draw T) hr (by rfl) T.g_law_draw T.F_law_draw.kp T.b_law_draw .nil pass0 (pa_cons (pv 1) (pa_cons pe_int pa_nil)))))))
    (pss_cons (ps_set (i := 4) sc_law.nd rfl (Or.inl rfl) (pe_lst pa_nil))
    (Evl.pss_cut (ps_for PassesOwn.never rfl (pi_range1 rfl T.z_range (pa_cons (pe_call (ok_law_draw T) hr (by rfl) T.g_law_draw T.F_law_draw.kp T.b_law_draw .nil pass0 (pa_cons (pv 1) (pa_cons pe_int pa_nil))) pa_nil)) (pg_name (i := 5) sc_law.nd rfl (Or.inl rfl)) (pss_one (ps_expr (pe_bm PySem.F.plainAttrs_list PySem.F.slot_list_append PySem.F.type_list_append mt_append (pv 4) (pa_cons (pe_call (ok_law_saying_n T 26) hr (by rfl) T.g_law_saying T.F_law_saying.kp T.b_law_saying .nil pass0 (pa_cons (pv 1) (pa_cons (pe_slice (sl_listK K) (pv 3) (po_some (pe_call (ok_law_draw T) hr (by rfl) T.g_law_draw T.F_law_draw.kp T.b_law_draw .nil pass0 (pa_cons (pv 1) (pa_cons (pe_callB (len_seqK K) (by rfl) T.z_len (by decide +kernel) (pa_cons (pv 3) pa_nil)) pa_nil)))) po_none) (pa_cons (pe_call (ok_law_of T) hr (by rfl) T.g_law_of T.F_law_of.kp T.b_law_of .nil pass0 (pa_cons (pv 1) (pa_cons (pe_lst (pa_cons pe_int (pa_cons pe_int (pa_cons pe_int (pa_cons pe_int (pa_cons pe_int (pa_cons pe_int pa_nil))))))) pa_nil))) pa_nil)))) pa_nil)))))
    (Evl.pss_cut (ps_if (pt_cmpR (neDK K hr.units) (pv 4) (pe_lst pa_nil) (by rfl)) (pss_cons (ps_set (i := 6) sc_law.nd rfl (Or.inl rfl) (pe_ix (ix_listK K) (pv 4) (pe_un un_neg pe_int) (fun _ _ => rfl)))
    (pss_cons (ps_for PassesOwn.never rfl (pi_range1 rfl T.z_range (pa_cons (pe_call (ok_law_draw T) hr (by rfl) T.g_law_draw T.F_law_draw.kp T.b_law_draw .nil pass0 (pa_cons (pv 1) (pa_cons (pe_op op_sub pe_int (pe_ix (ix_tupK K) (pe_call (ok_law_words_n T 64) hr (by rfl) T.g_law_words T.F_law_words.kp T.b_law_words .nil pass0 (pa_cons (pv 6) pa_nil)) pe_int (fun _ _ => rfl))) pa_nil))) pa_nil)) (pg_name (i := 5) sc_law.nd rfl (Or.inl rfl)) (pss_one (ps_set (i := 6) sc_law.nd rfl (Or.inl rfl) (pe_tup (pa_cons pe_str (pa_cons (pv 6) pa_nil))))))
    (pss_one (ps_asg (pv 6) (pg_sub (pv 4) (pe_un un_neg pe_int) set_list))))) pss_nil)
    (pss_cons (ps_for PassesOwn.never rfl (pi_list (pv 4)) (pg_name (i := 7) sc_law.nd rfl (Or.inl rfl)) (pss_one (ps_if (pt_not (pt_val (pe_callG (ok_law_right T) hr gd (by rfl) T.g_law_right T.F_law_right.kp T.b_law_right .nil pass0 (pa_cons (pv 7) (pa_cons (pv 2) pa_nil))))) (pss_one (ps_ret pe_bl)) pss_nil)))
    (pss_cons (ps_set (i := 8) sc_law.nd rfl (Or.inl rfl) (pe_lst pa_nil))
    (pss_cons (ps_for PassesOwn.never rfl (pi_list (pv 4)) (pg_name (i := 7) sc_law.nd rfl (Or.inl rfl)) (pss_one (ps_set (i := 8) sc_law.nd rfl (Or.inl rfl) (pe_call (ok_law_names_in_n T 64) hr (by rfl) T.g_law_names_in T.F_law_names_in.kp T.b_law_names_in .nil pass0 (pa_cons (pv 7) (pa_cons (pv 8) pa_nil))))))
    (pss_cons (ps_set (i := 9) sc_law.nd rfl (Or.inl rfl) (pe_callTy (tuple_ofK K) (by rfl) T.z_tuple (by decide +kernel) (pa_cons (pv 4) pa_nil)))
    (pss_one (ps_ret (pe_and (pe_cmpR op_eq (pe_callB (reprK K gd hr) (by rfl) T.z_repr (by decide +kernel) (pa_cons (pe_call (ok_unknowns_of T) hr (by rfl) T.g_unknowns_of T.F_unknowns_of.kp T.b_unknowns_of .nil pass0 (pa_cons (pv 9) pa_nil)) pa_nil)) (pe_callB (reprK K gd hr) (by rfl) T.z_repr (by decide +kernel) (pa_cons (pe_callTy (tuple_ofK K) (by rfl) T.z_tuple (by decide +kernel) (pa_cons (pv 8) pa_nil)) pa_nil)) (by rfl)) (pe_one (pe_cmpR op_eq (pe_callB (reprK K gd hr) (by rfl) T.z_repr (by decide +kernel) (pa_cons (pv 9) pa_nil)) (pe_callB (reprK K gd hr) (by rfl) T.z_repr (by decide +kernel) (pa_cons (pe_callTy (tuple_ofK K) (by rfl) T.z_tuple (by decide +kernel) (pa_cons (pv 4) pa_nil)) pa_nil)) (by rfl)))))))))))))))), ?_⟩
  try dsimp only [L2.cxOf, L2.Cx.nox]
  walk_at "rd"
  refine ⟨a, ns, 0, rfl, ha, hl, by decide, by decide, fun m H1 s1 _ m1 => ?_⟩
  walk_at "rd"
  refine ⟨by show 9 ≤ sizeLine; decide, fun es ne => ?_⟩
  have m2 := m1.same (Same.new ne (.lst (everyS.map V.str)))
  have e2 : (upd H1 es (.lst (everyS.map V.str))) es = some (.lst (everyS.map V.str)) := upd_same
  change tSeq _ _ _ _ (upd H1 es (.lst (everyS.map V.str)))
  generalize upd H1 es (.lst (everyS.map V.str)) = H2 at m2 e2
  walk_at "rd"
  refine ⟨m, 0, 9, rfl, m2, by decide, by decide, by decide, fun r0 H3 r00 r01 k3 m3 => ?_⟩
  have e3 := m2.lst k3 e2
  obtain ⟨rn, hrn⟩ : ∃ n : Nat, 1 + r0 = ((n + 1 : Nat) : Int) := ⟨r0.toNat, by omega⟩
  walk_at "rd"
  rw [hrn]
  refine rd_slL (sqL e3) fun na nn => ?_
  rw [cut_hi]
  have nok : ∀ x ∈ everyS.take (rn + 1), okName x := fun x hx => every_ok x (List.mem_of_mem_take hx)
  have nne : everyS.take (rn + 1) ≠ [] := by
    intro z
    have : (everyS.take (rn + 1)).length = 0 := by rw [z]; rfl
    rw [List.length_take] at this
    have : everyS.length = 9 := rfl
    omega
  have nlen : (everyS.take (rn + 1)).length ≤ 100 := by
    rw [List.length_take]
    have : everyS.length = 9 := rfl
    omega
  generalize everyS.take (rn + 1) = names at nok nne nlen
  have m4 := m3.same (Same.new nn (.lst (names.map V.str)))
  have e4 := (Same.new nn (.lst (names.map V.str))) _ _ e3
  have f4 : (upd H3 na (.lst (names.map V.str))) na = some (.lst (names.map V.str)) := upd_same
  generalize upd H3 na (.lst (names.map V.str)) = H4 at m4 e4 f4
  walk_at "rd"
  refine ⟨Nat.zero_le _, fun sa nsa => ?_⟩
  refine Evl.q_cut (M := fun σ H => ∃ (vs : List V) (ss : List Say) (y3 y5 : Option V), σ = [some (.ref a), some (.ref m), some (.ref es), y3, some (.ref sa), y5, none, none, none, none] ∧
    MAt H m 3000 ∧ H es = some (.lst (everyS.map V.str)) ∧ H sa = some (.lst vs) ∧ SaysAt H ss vs ∧ SaysOk 51 102 ss ∧ ss.length ≤ 3) ?_ ?_
  · have m5 := m4.same (Same.new nsa (.lst []))
    have s5 : Kp m H4 (upd H4 sa (.lst [])) := Kp.new nsa _
    have h5 : (upd H4 sa (.lst [])) sa = some (.lst []) := upd_same
    generalize upd H4 sa (.lst []) = H5 at m5 s5 h5
    walk_at "rd"
    refine ⟨m, 1, 4, rfl, m5.mono (by decide), by decide, by decide, by decide, fun r6 H6 r60 r61 k6 m6 => ?_⟩
    walk_at "rd"
    refine rd_atR r60 (by omega) (forR (n := r6.toNat) (lo := 0) (fun i σ H => ∃ (vs : List V) (ss : List Say) (y5 : Option V), σ = [some (.ref a), some (.ref m), some (.ref es), some (.ref na), some (.ref sa), y5, none, none, none, none] ∧
      Kp m H4 H ∧ MAt H m (3 + 600 * i) ∧ H sa = some (.lst vs) ∧ SaysAt H ss vs ∧ SaysOk 51 102 ss ∧ ss.length = i) ⟨[], [], none, rfl, s5.trans k6, m6.mono (by decide), m5.lst k6 h5, .nil, (fun s h => nomatch h), rfl⟩ ?_ ?_)
    · rintro i σ H7 hi ⟨vs, ss, y5, rfl, k7, m7, h7, hs7, ok7, len7⟩
      have hi3 : i < 3 := by omega
      have f7 := m4.lst k7 f4
      walk_at "rd"
      refine rd_tyL (sqL h7) ?_
      walk_at "rd"
      refine rd_len (.inl (sqL f7)) ?_
      have nl : (names.map V.str).length = names.length := List.length_map _
      have n0 : 0 < names.length := List.length_pos_iff.mpr nne
      rw [nl]
      walk_at "rd"
      refine ⟨m, _, _, rfl, m7, by omega, by omega, Int.lt_of_le_of_lt (show (names.length : Int) ≤ 100 by omega) (by decide), fun r8 H8 r80 r81 k8 m8 => ?_⟩
      obtain ⟨rn8, rfl⟩ : ∃ n : Nat, r8 = (n : Int) := ⟨r8.toNat, by omega⟩
      walk_at "rd"
      refine rd_slL (sqL (m7.lst k8 f7)) fun p9 n9 => ?_
      rw [cut_lo]
      have m9 := m8.same (Same.new n9 (.lst ((names.drop rn8).map V.str)))
      have g9 : (upd H8 p9 (.lst ((names.drop rn8).map V.str))) p9 = some (.lst ((names.drop rn8).map V.str)) := upd_same
      have k9 := k8.trans (Kp.new (m := m) n9 (.lst ((names.drop rn8).map V.str)))
      generalize upd H8 p9 (.lst ((names.drop rn8).map V.str)) = H9 at m9 g9 k9
      walk_at "rd"
      refine ⟨by show 6 ≤ sizeLine; decide, fun p10 n10 => ?_⟩
      have m10 := m9.same (Same.new n10 (.lst [V.int 0, V.int 1, V.int 2, V.int 4, V.int 9, V.int 25]))
      have g10 := (Same.new n10 (.lst [V.int 0, V.int 1, V.int 2, V.int 4, V.int 9, V.int 25])) _ _ g9
      have k10 := k9.trans (Kp.new (m := m) n10 (.lst [V.int 0, V.int 1, V.int 2, V.int 4, V.int 9, V.int 25]))
      have h10 : (upd H9 p10 (.lst [V.int 0, V.int 1, V.int 2, V.int 4, V.int 9, V.int 25])) p10 = some (.lst [V.int 0, V.int 1, V.int 2, V.int 4, V.int 9, V.int 25]) := upd_same
      walk_at "rd"
      refine ⟨m, p10, _, _, rfl, m10, by omega, h10, List.cons_ne_nil _ _, by show 6 ≤ 1000; decide, fun v H11 hv k11 m11 => ?_⟩
      obtain ⟨size, rfl, hsz⟩ : ∃ n : Nat, v = .int (n : Int) ∧ n ≤ 25 := by
        simp only [List.mem_cons, List.not_mem_nil, or_false] at hv
        rcases hv with rfl | rfl | rfl | rfl | rfl | rfl
        · exact ⟨0, rfl, by decide⟩
        · exact ⟨1, rfl, by decide⟩
        · exact ⟨2, rfl, by decide⟩
        · exact ⟨4, rfl, by decide⟩
        · exact ⟨9, rfl, by decide⟩
        · exact ⟨25, rfl, by decide⟩
      have g11 := m10.lst k11 g10
      walk_at "rd"
      refine ⟨m, p9, _, size, names.drop rn8, rfl, m11, by omega, g11, ?_, ?_, by omega, fun s u H12 k12 m12 hs12 lv12 mk12 dp12 wd12 => ?_⟩
      · intro z
        have : (names.drop rn8).length = 0 := by rw [z]; rfl
        rw [List.length_drop] at this
        omega
      · rw [List.length_drop]
        omega
      have k7' : Kp m H7 H12 := (k10.trans k11).trans k12
      have h12 := m7.lst k7' h7
      obtain ⟨kv7, d7⟩ := m7.dict
      have hs12' := hs7.keep (Tk.kp k7' d7)
      walk_at "rd"
      refine rd_append h12 (by rw [← hs7.length]; omega) ?_
      refine ⟨_, ss ++ [s], _, rfl, (k7.trans k7').put' nsa _, (m12.beside h12 hs12' _).mono (by omega), upd_same, ?_, ?_, ?_⟩
      · exact (hs12'.append (.cons hs12 .nil)).keep (Tk.lst h12)
      · intro t ht
        rcases List.mem_append.mp ht with ht | ht
        · exact ok7 t ht
        · obtain rfl := List.mem_singleton.mp ht
          exact ⟨fun x hx => nok x (List.mem_of_mem_drop (lv12 x hx)), by omega, by omega⟩
      · rw [List.length_append, len7]
        rfl
    · rintro σ H7 ⟨vs, ss, y5, rfl, k7, m7, h7, hs7, ok7, len7⟩
      have hn : r6.toNat ≤ 3 := by omega
      exact ⟨vs, ss, _, _, rfl, m7.mono (by omega), m4.lst k7 e4, h7, hs7, ok7, by omega⟩
  rintro σ H5 ⟨vs, ss, y3, y5, rfl, m5, e5, h5, hs5, ok5, len5⟩
  refine Evl.q_cut (M := fun σ H => ∃ (vs : List V) (ss : List Say) (y3 y5 y6 : Option V), σ = [some (.ref a), some (.ref m), some (.ref es), y3, some (.ref sa), y5, y6, none, none, none] ∧
    H es = some (.lst (everyS.map V.str)) ∧ H sa = some (.lst vs) ∧ SaysAt H ss vs ∧ SaysOk 60 200 ss ∧ ss.length ≤ 3) ?_ ?_
  · walk_at "rd"
    refine ⟨Nat.zero_le _, fun p6 n6 => ?_⟩
    have s6 : Same H5 (upd H5 p6 (.lst [])) := Same.new n6 _
    have h6 : (upd H5 p6 (.lst [])) p6 = some (.lst []) := upd_same
    have m6 := m5.same s6
    generalize upd H5 p6 (.lst []) = H6 at s6 h6 m6
    have g6 := s6 _ _ h5
    have hs6 := hs5.keep (Tk.of s6)
    refine rd_neD (.lst (sqL g6) (hs6.dp K)) (.lst (sqL h6) .nil) ?_ rfl ?_ (by decide) ?_
    · rw [smallD]
      exact says_small ss fun s m x hx => (ok5 s m).1 x hx
    · rw [PyData.depth]
      have := says_depth 51 ss fun s m => (ok5 s m).2.1
      omega
    rw [eqv_nil]
    walk_at "rd"
    refine rd_bool (fun c => ?_) (fun c => ?_)
    · obtain ⟨tt, s, rfl⟩ : ∃ tt s, ss = tt ++ [s] := by
        rcases List.eq_nil_or_concat ss with rfl | ⟨tt, s, e⟩
        · cases c
        · exact ⟨tt, s, by rw [e, List.concat_eq_append]⟩
      obtain ⟨ws, u, rfl, hws, hu⟩ := says_last hs6
      have oks := ok5 s (List.mem_append_right _ (List.mem_singleton.mpr rfl))
      walk_at "rd"
      refine rd_ixL (sqL g6) (atI_last ws u) ?_
      walk_at "rd"
      refine ⟨s, u, rfl, hu, by omega, by omega, fun t l H7 s7 ht hl => ?_⟩
      walk_at "rd"
      refine rd_ixT (sqT ht) (atI_nat (j := 1) rfl) ?_
      have m7 := m6.same s7
      walk_at "rd"
      refine ⟨m, _, _, rfl, m7, by decide, by omega, Int.lt_of_le_of_lt (show 61 - (s.depth : Int) ≤ 61 by omega) (by decide), fun r8 H8 r80 r81 k8 m8 => ?_⟩
      have k68 : Kp m H6 H8 := (Kp.of s7).trans k8
      obtain ⟨kv6, d6⟩ := m6.dict
      have hu8 := hu.keep (Tk.kp k68 d6)
      have hws8 := hws.keep (Tk.kp k68 d6)
      have g8 := m6.lst k68 g6
      have e8 := m6.lst k68 (s6 _ _ e5)
      walk_at "rd"
      refine rd_atR r80 (by omega) (forR (n := r8.toNat) (lo := 0) (fun i σ H => ∃ (s' : Say) (u' : V) (y5 : Option V), σ = [some (.ref a), some (.ref m), some (.ref es), y3, some (.ref sa), y5, some u', none, none, none] ∧
        Same H8 H ∧ SayAt H s' u' ∧ (∀ x ∈ s'.leaves, okName x) ∧ s'.depth = s.depth + i ∧ s'.words = s.words + i) ⟨s, u, _, rfl, Same.refl _, hu8, oks.1, rfl, rfl⟩ ?_ ?_)
      · rintro i σ H9 hi ⟨s', u', y5', rfl, s9, hu9, lv9, dp9, wd9⟩
        walk_at "rd"
        refine ⟨by show 2 ≤ sizeLine; decide, fun p np => ?_⟩
        refine ⟨.not s', .ref p, _, rfl, s9.trans (Same.new np _), ⟨p, u', rfl, upd_same, hu9.keep (Tk.of (Same.new np _))⟩, lv9, ?_, ?_⟩
        · show s'.depth + 1 = _
          omega
        · show s'.words + 1 = _
          omega
      · rintro σ H9 ⟨s', u', y5', rfl, s9, hu9, lv9, dp9, wd9⟩
        have hn : r8.toNat ≤ 60 - s.depth := by omega
        have hws9 := hws8.keep (Tk.of s9)
        have g9 := s9 _ _ g8
        have e9 := s9 _ _ e8
        have ne9 : es ≠ sa := ne_says e9 (List.cons_ne_nil _ _) g9 (hws9.append (.cons (hu8.keep (Tk.of s9)) .nil))
        walk_at "rd"
        refine rd_gsub ?_
        walk_at "rd"
        refine rd_setL g9 ?_
        refine ⟨ws ++ [u'], tt ++ [s'], y3, _, _, rfl, ?_, upd_same, ?_, ?_, ?_⟩
        · rw [upd_ne ne9]
          exact e9
        · exact (hws9.append (.cons hu9 .nil)).keep (Tk.lst g9)
        · intro t ht
          rcases List.mem_append.mp ht with ht | ht
          · have := ok5 t (List.mem_append_left _ ht)
            exact ⟨this.1, by omega, by omega⟩
          · obtain rfl := List.mem_singleton.mp ht
            exact ⟨lv9, by omega, by omega⟩
        · rw [List.length_append] at len5 ⊢
          exact len5
    · walk_at "rd"
      refine ⟨vs, ss, y3, y5, none, rfl, s6 _ _ e5, g6, hs6, fun t ht => ?_, len5⟩
      have := ok5 t ht
      exact ⟨this.1, by omega, by omega⟩
  rintro σ H6 ⟨vs, ss, y3, y5, y6, rfl, e6, h6, hs6, ok6, len6⟩
  have wl : ∀ ss : List Say, SaysOk 60 200 ss → wsum ss ≤ 200 * ss.length := by
    intro ss h
    induction ss with
    | nil => exact Nat.zero_le _
    | cons x r ih =>
      have h1 := (h x (List.mem_cons_self ..)).2.2
      have h2 := ih fun s m => h s (List.mem_cons_of_mem _ m)
      show x.words + wsum r ≤ 200 * (r.length + 1)
      omega
  have w6 := wl ss ok6
  walk_at "rd"
  refine rd_atL (sqL h6) (forL (xs := vs) (fun i σ H => ∃ (y7 : Option V), σ = [some (.ref a), some (.ref m), some (.ref es), y3, some (.ref sa), y5, y6, y7, none, none] ∧ Same H6 H) ⟨none, rfl, Same.refl _⟩ (fun i σ H' _ ⟨_, _, z⟩ => sqL (z _ _ h6)) ?_ ?_)
  · rintro i x σ H7 hi ⟨y7, rfl, s7⟩
    obtain ⟨s, hsi, hat⟩ := hs6.get hi
    have oks := ok6 s (List.mem_of_getElem? hsi)
    walk_at "rd"
    refine ⟨s, x, es, everyS, rfl, hat.keep (Tk.of s7), s7 _ _ e6, by omega, by omega, by decide, fun H8 s8 => ?_⟩
    walk_at "rd"
    exact ⟨_, rfl, s7.trans s8⟩
  rintro σ H7 ⟨y7, rfl, s7⟩
  walk_at "rd"
  refine ⟨Nat.zero_le _, fun da nda => ?_⟩
  have s8 := s7.trans (Same.new nda (.lst []))
  have d8 : (upd H7 da (.lst [])) da = some (.lst (([] : List Str).map V.str)) := upd_same
  change tSeq _ _ _ _ (upd H7 da (.lst []))
  generalize upd H7 da (.lst []) = H8 at s8 d8
  walk_at "rd"
  refine rd_atL (sqL (s8 _ _ h6)) (forL (xs := vs) (fun i σ H => ∃ (y7 : Option V) (db : Addr), σ = [some (.ref a), some (.ref m), some (.ref es), y3, some (.ref sa), y5, y6, y7, some (.ref db), none] ∧ Same H8 H ∧
    H db = some (.lst ((foldNames (ss.take i) []).map V.str))) ⟨_, da, rfl, Same.refl _, d8⟩ (fun i σ H' _ ⟨_, _, _, z, _⟩ => sqL (z _ _ (s8 _ _ h6))) ?_ ?_)
  · rintro i x σ H9 hi ⟨y7, db, rfl, s9, d9⟩
    obtain ⟨s, hsi, hat⟩ := hs6.get hi
    have oks := ok6 s (List.mem_of_getElem? hsi)
    have w9 := fold_len (ss.take i) []
    have w9' := wsum_take hsi
    rw [List.length_nil] at w9
    walk_at "rd"
    refine ⟨s, x, db, _, rfl, hat.keep (Tk.of (s8.trans s9)), d9, by omega, by omega, fun r H10 s10 d10 => ?_⟩
    walk_at "rd"
    refine ⟨_, r, rfl, s9.trans s10, ?_⟩
    rw [fold_more hsi]
    exact d10
  rintro σ H9 ⟨y7, db, rfl, s9, d9⟩
  have h9 := s9 _ _ (s8 _ _ h6)
  have hs9 := hs6.keep (Tk.of (s8.trans s9))
  rw [← hs6.length, List.take_length] at d9
  have wf := fold_len ss []
  rw [List.length_nil] at wf
  have namesOk : ∀ (s : Say) (f : List Str), (∀ x ∈ s.leaves, okName x) → (∀ x ∈ f, okName x) → ∀ x ∈ s.namesIn f, okName x := by
    intro s
    induction s with
    | unk y =>
      intro f h1 h2 x hx
      have hx' : x ∈ (if y ∈ f then f else f ++ [y]) := hx
      split at hx'
      · exact h2 x hx'
      · rcases List.mem_append.mp hx' with q | q
        · exact h2 x q
        · exact h1 x q
    | yes => intro f h1 h2; exact h2
    | no => intro f h1 h2; exact h2
    | not a ih => intro f h1 h2; exact ih f h1 h2
    | bin k a b iha ihb => intro f h1 h2; exact ihb _ (fun x m => h1 x (List.mem_append_right _ m)) (iha f (fun x m => h1 x (List.mem_append_left _ m)) h2)
  have foldOk : ∀ (ss : List Say) (f : List Str), (∀ s ∈ ss, ∀ x ∈ s.leaves, okName x) → (∀ x ∈ f, okName x) → ∀ x ∈ foldNames ss f, okName x := by
    intro ss
    induction ss with
    | nil => intro f h1 h2; exact h2
    | cons s r ih => intro f h1 h2; exact ih _ (fun t m => h1 t (List.mem_cons_of_mem _ m)) (namesOk s f (h1 s (List.mem_cons_self ..)) h2)
  have fok := foldOk ss [] (fun s m => (ok6 s m).1) (fun x h => nomatch h)
  generalize hfs : foldNames ss [] = fs at d9 wf fok
  have sayTup : ∀ (H : Hp) (p : Addr) (Q : VK), H p = some (.tup vs) → SaysAt H ss vs → Q (.str (PyData.tuple (ss.map Say.data)).shown) H → rRepr K [.ref p] H Q := by
    intro H p Q hp hs q
    refine rd_repr (.tup (sqT hp) (hs.dp K)) ?_ ?_ ?_ q
    · rw [smallD]
      exact says_small ss fun s m x hx => (ok6 s m).1 x hx
    · rw [PyData.bulk]
      have := says_bulk ss fun s m x hx => (ok6 s m).1 x hx
      omega
    · rw [PyData.depth]
      have := says_depth 60 ss fun s m => (ok6 s m).2.1
      omega
  walk_at "rd"
  refine ⟨sa, vs, rfl, .inl ⟨sqL h9, fun ha nh => ?_⟩⟩
  have sA := Same.new nh (.tup vs)
  have hA : (upd H9 ha (.tup vs)) ha = some (.tup vs) := upd_same
  generalize upd H9 ha (.tup vs) = HA at sA hA
  walk_at "rd"
  refine ⟨ha, vs, ss, rfl, sqT hA, hs9.keep (Tk.of sA), by omega, fun r HB sB hB => ?_⟩
  rw [hfs] at hB
  walk_at "rd"
  refine rd_reprS fs hB fok (by omega) ?_
  walk_at "rd"
  refine ⟨db, _, rfl, .inl ⟨sqL (sB _ _ (sA _ _ d9)), fun dt ndt => ?_⟩⟩
  have sC := Same.new ndt (.tup (fs.map V.str))
  walk_at "rd"
  refine rd_reprS fs upd_same fok (by omega) ?_
  generalize upd HB dt (.tup (fs.map V.str)) = HC at sC
  walk_at "rd"
  refine rd_true rfl ?_
  have s9C := (sA.trans sB).trans sC
  walk_at "rd"
  refine sayTup _ _ _ ((sB.trans sC) _ _ hA) (hs9.keep (Tk.of s9C)) ?_
  walk_at "rd"
  refine ⟨sa, vs, rfl, .inl ⟨sqL (s9C _ _ h9), fun tp ntp => ?_⟩⟩
  have sD := Same.new ntp (.tup vs)
  walk_at "rd"
  refine sayTup _ _ _ upd_same (hs9.keep (Tk.of (s9C.trans sD))) ?_
  walk_at "rd"
  rw [decide_eq_true rfl]
  exact q _
end

theorem all_mk {l : PySem.W.OpenLaw} {w : World} {K : PySem.W.Frag} {h : Heap} {mg : Str → Option Value} {fa f1 f2 f3 f4 f5 f6 f7 f8 f9 f10 f11 f12 f13 f14 f15 f16 : Addr} (X : K.In h) (G : h.Ns mainGlobals mg) (hfa : mg "law" = some (.ref fa))
    {od1 an1 od2 an2 od3 an3 od4 an4 od5 an5 od6 an6 od7 an7 od8 an8 od9 an9 od10 an10 od11 an11 od12 an12 od13 an13 od14 an14 od15 an15 od16 an16 : Option Addr} {sl1 sl2 sl3 sl4 sl5 sl6 sl7 sl8 sl9 sl10 sl11 sl12 sl13 sl14 sl15 sl16 : Array (Option Value)}
    {oc1 kV1 dc1 pm1 cd1 ct1 oc2 kV2 dc2 pm2 cd2 ct2 oc3 kV3 dc3 pm3 cd3 ct3 oc4 kV4 dc4 pm4 cd4 ct4 oc5 kV5 dc5 pm5 cd5 ct5 oc6 kV6 dc6 pm6 cd6 ct6 oc7 kV7 dc7 pm7 cd7 ct7 oc8 kV8 dc8 pm8 cd8 ct8 oc9 kV9 dc9 pm9 cd9 ct9 oc10 kV10 dc10 pm10 cd10 ct10 oc11 kV11 dc11 pm11 cd11 ct11 oc12 kV12 dc12 pm12 cd12 ct12 oc13 kV13 dc13 pm13 cd13 ct13 oc14 kV14 dc14 pm14 cd14 ct14 oc15 kV15 dc15 pm15 cd15 ct15 oc16 kV16 dc16 pm16 cd16 ct16 : Value}
    (a1 : PySem.W.nsIn K mainGlobals "parts_of" = some (some (.ref f1)))
    (l1 : K.lookup f1 = some ⟨oc1, od1, .func (PySem.W.fnOf "parts_of" "parts_of" (defArgs s_parts_of) (defBody s_parts_of) (defScope s_parts_of) .none kV1 dc1 pm1 an1 cd1 ct1), sl1⟩)
    (c1 : PySem.W.codeIn K cd1 "parts_of" = true) (k1 : PySem.W.keepIn K (.ref f1) = true)
    (a2 : PySem.W.nsIn K mainGlobals "all_words" = some (some (.ref f2)))
    (l2 : K.lookup f2 = some ⟨oc2, od2, .func (PySem.W.fnOf "all_words" "all_words" (defArgs s_all_words) (defBody s_all_words) (defScope s_all_words) .none kV2 dc2 pm2 an2 cd2 ct2), sl2⟩)
    (c2 : PySem.W.codeIn K cd2 "all_words" = true) (k2 : PySem.W.keepIn K (.ref f2) = true)
    (a3 : PySem.W.nsIn K mainGlobals "words_in" = some (some (.ref f3)))
    (l3 : K.lookup f3 = some ⟨oc3, od3, .func (PySem.W.fnOf "words_in" "words_in" (defArgs s_words_in) (defBody s_words_in) (defScope s_words_in) .none kV3 dc3 pm3 an3 cd3 ct3), sl3⟩)
    (c3 : PySem.W.codeIn K cd3 "words_in" = true) (k3 : PySem.W.keepIn K (.ref f3) = true)
    (a4 : PySem.W.nsIn K mainGlobals "depth_of" = some (some (.ref f4)))
    (l4 : K.lookup f4 = some ⟨oc4, od4, .func (PySem.W.fnOf "depth_of" "depth_of" (defArgs s_depth_of) (defBody s_depth_of) (defScope s_depth_of) .none kV4 dc4 pm4 an4 cd4 ct4), sl4⟩)
    (c4 : PySem.W.codeIn K cd4 "depth_of" = true) (k4 : PySem.W.keepIn K (.ref f4) = true)
    (a5 : PySem.W.nsIn K mainGlobals "marks_in" = some (some (.ref f5)))
    (l5 : K.lookup f5 = some ⟨oc5, od5, .func (PySem.W.fnOf "marks_in" "marks_in" (defArgs s_marks_in) (defBody s_marks_in) (defScope s_marks_in) .none kV5 dc5 pm5 an5 cd5 ct5), sl5⟩)
    (c5 : PySem.W.codeIn K cd5 "marks_in" = true) (k5 : PySem.W.keepIn K (.ref f5) = true)
    (a6 : PySem.W.nsIn K mainGlobals "unknowns_of" = some (some (.ref f6)))
    (l6 : K.lookup f6 = some ⟨oc6, od6, .func (PySem.W.fnOf "unknowns_of" "unknowns_of" (defArgs s_unknowns_of) (defBody s_unknowns_of) (defScope s_unknowns_of) .none kV6 dc6 pm6 an6 cd6 ct6), sl6⟩)
    (c6 : PySem.W.codeIn K cd6 "unknowns_of" = true) (k6 : PySem.W.keepIn K (.ref f6) = true)
    (a7 : PySem.W.nsIn K mainGlobals "occurrences" = some (some (.ref f7)))
    (l7 : K.lookup f7 = some ⟨oc7, od7, .func (PySem.W.fnOf "occurrences" "occurrences" (defArgs s_occurrences) (defBody s_occurrences) (defScope s_occurrences) .none kV7 dc7 pm7 an7 cd7 ct7), sl7⟩)
    (c7 : PySem.W.codeIn K cd7 "occurrences" = true) (k7 : PySem.W.keepIn K (.ref f7) = true)
    (a8 : PySem.W.nsIn K mainGlobals "_law_begun" = some (some (.ref f8)))
    (l8 : K.lookup f8 = some ⟨oc8, od8, .func (PySem.W.fnOf "_law_begun" "_law_begun" (defArgs s_law_begun) (defBody s_law_begun) (defScope s_law_begun) .none kV8 dc8 pm8 an8 cd8 ct8), sl8⟩)
    (c8 : PySem.W.codeIn K cd8 "_law_begun" = true) (k8 : PySem.W.keepIn K (.ref f8) = true)
    (a9 : PySem.W.nsIn K mainGlobals "_law_draw" = some (some (.ref f9)))
    (l9 : K.lookup f9 = some ⟨oc9, od9, .func (PySem.W.fnOf "_law_draw" "_law_draw" (defArgs s_law_draw) (defBody s_law_draw) (defScope s_law_draw) .none kV9 dc9 pm9 an9 cd9 ct9), sl9⟩)
    (c9 : PySem.W.codeIn K cd9 "_law_draw" = true) (k9 : PySem.W.keepIn K (.ref f9) = true)
    (a10 : PySem.W.nsIn K mainGlobals "_law_of" = some (some (.ref f10)))
    (l10 : K.lookup f10 = some ⟨oc10, od10, .func (PySem.W.fnOf "_law_of" "_law_of" (defArgs s_law_of) (defBody s_law_of) (defScope s_law_of) .none kV10 dc10 pm10 an10 cd10 ct10), sl10⟩)
    (c10 : PySem.W.codeIn K cd10 "_law_of" = true) (k10 : PySem.W.keepIn K (.ref f10) = true)
    (a11 : PySem.W.nsIn K mainGlobals "_law_saying" = some (some (.ref f11)))
    (l11 : K.lookup f11 = some ⟨oc11, od11, .func (PySem.W.fnOf "_law_saying" "_law_saying" (defArgs s_law_saying) (defBody s_law_saying) (defScope s_law_saying) .none kV11 dc11 pm11 an11 cd11 ct11), sl11⟩)
    (c11 : PySem.W.codeIn K cd11 "_law_saying" = true) (k11 : PySem.W.keepIn K (.ref f11) = true)
    (a12 : PySem.W.nsIn K mainGlobals "_law_names_in" = some (some (.ref f12)))
    (l12 : K.lookup f12 = some ⟨oc12, od12, .func (PySem.W.fnOf "_law_names_in" "_law_names_in" (defArgs s_law_names_in) (defBody s_law_names_in) (defScope s_law_names_in) .none kV12 dc12 pm12 an12 cd12 ct12), sl12⟩)
    (c12 : PySem.W.codeIn K cd12 "_law_names_in" = true) (k12 : PySem.W.keepIn K (.ref f12) = true)
    (a13 : PySem.W.nsIn K mainGlobals "_law_words" = some (some (.ref f13)))
    (l13 : K.lookup f13 = some ⟨oc13, od13, .func (PySem.W.fnOf "_law_words" "_law_words" (defArgs s_law_words) (defBody s_law_words) (defScope s_law_words) .none kV13 dc13 pm13 an13 cd13 ct13), sl13⟩)
    (c13 : PySem.W.codeIn K cd13 "_law_words" = true) (k13 : PySem.W.keepIn K (.ref f13) = true)
    (a14 : PySem.W.nsIn K mainGlobals "_law_leaves" = some (some (.ref f14)))
    (l14 : K.lookup f14 = some ⟨oc14, od14, .func (PySem.W.fnOf "_law_leaves" "_law_leaves" (defArgs s_law_leaves) (defBody s_law_leaves) (defScope s_law_leaves) .none kV14 dc14 pm14 an14 cd14 ct14), sl14⟩)
    (c14 : PySem.W.codeIn K cd14 "_law_leaves" = true) (k14 : PySem.W.keepIn K (.ref f14) = true)
    (a15 : PySem.W.nsIn K mainGlobals "_law_right" = some (some (.ref f15)))
    (l15 : K.lookup f15 = some ⟨oc15, od15, .func (PySem.W.fnOf "_law_right" "_law_right" (defArgs s_law_right) (defBody s_law_right) (defScope s_law_right) .none kV15 dc15 pm15 an15 cd15 ct15), sl15⟩)
    (c15 : PySem.W.codeIn K cd15 "_law_right" = true) (k15 : PySem.W.keepIn K (.ref f15) = true)
    (a16 : PySem.W.nsIn K mainGlobals "law" = some (some (.ref f16)))
    (l16 : K.lookup f16 = some ⟨oc16, od16, .func (PySem.W.fnOf "law" "law" (defArgs s_law) (defBody s_law) (defScope s_law) .none kV16 dc16 pm16 an16 cd16 ct16), sl16⟩)
    (c16 : PySem.W.codeIn K cd16 "law" = true) (k16 : PySem.W.keepIn K (.ref f16) = true)
    (z_len : PySem.W.nsIn K mainGlobals "len" = some none)
    (z_max : PySem.W.nsIn K mainGlobals "max" = some none)
    (z_tuple : PySem.W.nsIn K mainGlobals "tuple" = some none)
    (z_list : PySem.W.nsIn K mainGlobals "list" = some none)
    (z_int : PySem.W.nsIn K mainGlobals "int" = some none)
    (z_repr : PySem.W.nsIn K mainGlobals "repr" = some none)
    (z_range : PySem.W.nsIn K mainGlobals "range" = some none)
    {a_MARKS : Addr} {od_MARKS : Option Addr} {it_MARKS : Array Value} {nn_MARKS : Nat} {sl_MARKS : Array (Option Value)}
    (n_MARKS : PySem.W.nsIn K mainGlobals "MARKS" = some (some (.ref a_MARKS))) (l_MARKS : K.lookup a_MARKS = some ⟨.type "tuple", od_MARKS, .seq it_MARKS nn_MARKS, sl_MARKS⟩)
    (y_MARKS : it_MARKS.size ≤ sizeLine) (v_MARKS : Vals [.str "plus", .str "times", .str "leads", .str "and", .str "or", .str "same"] it_MARKS.toList) :
    ∃ fd : FuncData, (∀ (s : Shared) (v : Value), BindsTo s fd ⟨[v], []⟩ [("script", v)]) ∧ ∀ base : Heap, K.In base → base.Ns mainGlobals mg → FnG l.prog w K mg base CX0 66 fa fd ["script"] (spLaw K) := by
  have e := hfa.symm.trans (PySem.W.mg_of X G a16)
  cases e
  have F1 := fun_mk (st := s_parts_of) l1 c1 k1
  have F2 := fun_mk (st := s_all_words) l2 c2 k2
  have F3 := fun_mk (st := s_words_in) l3 c3 k3
  have F4 := fun_mk (st := s_depth_of) l4 c4 k4
  have F5 := fun_mk (st := s_marks_in) l5 c5 k5
  have F6 := fun_mk (st := s_unknowns_of) l6 c6 k6
  have F7 := fun_mk (st := s_occurrences) l7 c7 k7
  have F8 := fun_mk (st := s_law_begun) l8 c8 k8
  have F9 := fun_mk (st := s_law_draw) l9 c9 k9
  have F10 := fun_mk (st := s_law_of) l10 c10 k10
  have F11 := fun_mk (st := s_law_saying) l11 c11 k11
  have F12 := fun_mk (st := s_law_names_in) l12 c12 k12
  have F13 := fun_mk (st := s_law_words) l13 c13 k13
  have F14 := fun_mk (st := s_law_leaves) l14 c14 k14
  have F15 := fun_mk (st := s_law_right) l15 c15 k15
  have F16 := fun_mk (st := s_law) l16 c16 k16
  have b1 := F1.binds (ps := ["word"]) fun _ _ _ _ _ _ us hl => match us, hl with | [_], _ => rfl
  have b2 := F2.binds (ps := ["saying"]) fun _ _ _ _ _ _ us hl => match us, hl with | [_], _ => rfl
  have b3 := F3.binds (ps := ["saying"]) fun _ _ _ _ _ _ us hl => match us, hl with | [_], _ => rfl
  have b4 := F4.binds (ps := ["saying"]) fun _ _ _ _ _ _ us hl => match us, hl with | [_], _ => rfl
  have b5 := F5.binds (ps := ["saying"]) fun _ _ _ _ _ _ us hl => match us, hl with | [_], _ => rfl
  have b6 := F6.binds (ps := ["sayings"]) fun _ _ _ _ _ _ us hl => match us, hl with | [_], _ => rfl
  have b7 := F7.binds (ps := ["saying", "name"]) fun _ _ _ _ _ _ us hl => match us, hl with | [_, _], _ => rfl
  have b8 := F8.binds (ps := ["script", "k"]) fun _ _ _ _ _ _ us hl => match us, hl with | [_, _], _ => rfl
  have b9 := F9.binds (ps := ["m", "below"]) fun _ _ _ _ _ _ us hl => match us, hl with | [_, _], _ => rfl
  have b10 := F10.binds (ps := ["m", "some"]) fun _ _ _ _ _ _ us hl => match us, hl with | [_, _], _ => rfl
  have b11 := F11.binds (ps := ["m", "names", "size"]) fun _ _ _ _ _ _ us hl => match us, hl with | [_, _, _], _ => rfl
  have b12 := F12.binds (ps := ["saying", "found"]) fun _ _ _ _ _ _ us hl => match us, hl with | [_, _], _ => rfl
  have b13 := F13.binds (ps := ["saying"]) fun _ _ _ _ _ _ us hl => match us, hl with | [_], _ => rfl
  have b14 := F14.binds (ps := ["saying"]) fun _ _ _ _ _ _ us hl => match us, hl with | [_], _ => rfl
  have b15 := F15.binds (ps := ["saying", "names"]) fun _ _ _ _ _ _ us hl => match us, hl with | [_, _], _ => rfl
  have T : Txt K mg := {
    f_parts_of := f1,
    d_parts_of := _,
    F_parts_of := F1,
    b_parts_of := b1,
    g_parts_of := PySem.W.mg_of X G a1,
    f_all_words := f2,
    d_all_words := _,
    F_all_words := F2,
    b_all_words := b2,
    g_all_words := PySem.W.mg_of X G a2,
    f_words_in := f3,
    d_words_in := _,
    F_words_in := F3,
    b_words_in := b3,
    g_words_in := PySem.W.mg_of X G a3,
    f_depth_of := f4,
    d_depth_of := _,
    F_depth_of := F4,
    b_depth_of := b4,
    g_depth_of := PySem.W.mg_of X G a4,
    f_marks_in := f5,
    d_marks_in := _,
    F_marks_in := F5,
    b_marks_in := b5,
    g_marks_in := PySem.W.mg_of X G a5,
    f_unknowns_of := f6,
    d_unknowns_of := _,
    F_unknowns_of := F6,
    b_unknowns_of := b6,
    g_unknowns_of := PySem.W.mg_of X G a6,
    f_occurrences := f7,
    d_occurrences := _,
    F_occurrences := F7,
    b_occurrences := b7,
    g_occurrences := PySem.W.mg_of X G a7,
    f_law_begun := f8,
    d_law_begun := _,
    F_law_begun := F8,
    b_law_begun := b8,
    g_law_begun := PySem.W.mg_of X G a8,
    f_law_draw := f9,
    d_law_draw := _,
    F_law_draw := F9,
    b_law_draw := b9,
    g_law_draw := PySem.W.mg_of X G a9,
    f_law_of := f10,
    d_law_of := _,
    F_law_of := F10,
    b_law_of := b10,
    g_law_of := PySem.W.mg_of X G a10,
    f_law_saying := f11,
    d_law_saying := _,
    F_law_saying := F11,
    b_law_saying := b11,
    g_law_saying := PySem.W.mg_of X G a11,
    f_law_names_in := f12,
    d_law_names_in := _,
    F_law_names_in := F12,
    b_law_names_in := b12,
    g_law_names_in := PySem.W.mg_of X G a12,
    f_law_words := f13,
    d_law_words := _,
    F_law_words := F13,
    b_law_words := b13,
    g_law_words := PySem.W.mg_of X G a13,
    f_law_leaves := f14,
    d_law_leaves := _,
    F_law_leaves := F14,
    b_law_leaves := b14,
    g_law_leaves := PySem.W.mg_of X G a14,
    f_law_right := f15,
    d_law_right := _,
    F_law_right := F15,
    b_law_right := b15,
    g_law_right := PySem.W.mg_of X G a15,
    z_len := PySem.W.mg_none_of X G z_len,
    z_max := PySem.W.mg_none_of X G z_max,
    z_tuple := PySem.W.mg_none_of X G z_tuple,
    z_list := PySem.W.mg_none_of X G z_list,
    z_int := PySem.W.mg_none_of X G z_int,
    z_repr := PySem.W.mg_none_of X G z_repr,
    z_range := PySem.W.mg_none_of X G z_range,
    a_MARKS := a_MARKS,
    c_MARKS := PySem.W.mg_of X G n_MARKS,
    t_MARKS := fun H => .inr ⟨_, it_MARKS, nn_MARKS, l_MARKS, rfl, rfl, y_MARKS, v_MARKS⟩ }
  exact ⟨_, fun s v => .of_eq rfl, fun base _ _ => ok_law T F16⟩
theorem walk {l : PySem.W.OpenLaw} {q : Program} {loose : List Str} {XP : (Str → Option Value) → Heap → Prop} {YP : World → Heap → Prop}
    {d : DefRec} {K : Params → PySem.W.Frag} (hn : l.most = some 63) (hdf : d.params.defaults = [])
    (hY : ∀ (w : World) (h : Heap), YP w h → (K w.params).In h)
    (F : ∀ (w : World) (mg : Str → Option Value) (fa : Addr) (h : Heap), (K w.params).In h → h.Ns mainGlobals mg → mg d.name = some (.ref fa) →
      ∃ fd : FuncData, (∀ (s : Shared) (u : Value), BindsTo s fd ⟨[u], []⟩ [("script", u)]) ∧
        ∀ base : Heap, (K w.params).In base → base.Ns mainGlobals mg → FnG l.prog w (K w.params) mg base CX0 66 fa fd ["script"] (spLaw (K w.params))) :
    PySem.W.WalkO q loose XP YP l.row.toRowW d [] (fun f vs => PySem.call f vs) :=
  Gd.walkG (n := 63) (k := 66) (x := "script") (sp := fun w => spLaw (K w.params)) hn (by decide) hdf ⟨rfl, by decide, by decide⟩ hY F (fun w H a ns hl hb _ hS => ⟨a, ns, rfl, hS, hl, hb, fun _ => rfl⟩)
end Lw
open PySem PySem.W PyProof.Rows in
set_option maxRecDepth 100000 in
set_option maxHeartbeats 0 in
theorem PySem.Challenge.cw_halftruths_k01_sayings_counted_holds : PySem.Challenge.rw_halftruths_k01_sayings_counted.Holds := by
  w_on; o_law; k_head; (case hw => w_witness2)
  k_fill
  refine Lw.walk (l := PySem.Challenge.rw_halftruths_k01_sayings_counted) rfl rfl (fun w h Y => PySem.W.kIn_of Y) ?F
  case F =>
    intro w mg fa h KX G hmg
    refine' Lw.all_mk KX G hmg ?a1 ?l1 ?c1 ?k1 ?a2 ?l2 ?c2 ?k2 ?a3 ?l3 ?c3 ?k3 ?a4 ?l4 ?c4 ?k4 ?a5 ?l5 ?c5 ?k5 ?a6 ?l6 ?c6 ?k6 ?a7 ?l7 ?c7 ?k7 ?a8 ?l8 ?c8 ?k8 ?a9 ?l9 ?c9 ?k9 ?a10 ?l10 ?c10 ?k10 ?a11 ?l11 ?c11 ?k11 ?a12 ?l12 ?c12 ?k12 ?a13 ?l13 ?c13 ?k13 ?a14 ?l14 ?c14 ?k14 ?a15 ?l15 ?c15 ?k15 ?a16 ?l16 ?c16 ?k16 ?z_len ?z_max ?z_tuple ?z_list ?z_int ?z_repr ?z_range ?n_MARKS ?l_MARKS ?y_MARKS ?v_MARKS
    (case a1 => k_is)
    (case l1 => k_is)
    (case c1 => k_is)
    (case k1 => k_is)
    (case a2 => k_is)
    (case l2 => k_is)
    (case c2 => k_is)
    (case k2 => k_is)
    (case a3 => k_is)
    (case l3 => k_is)
    (case c3 => k_is)
    (case k3 => k_is)
    (case a4 => k_is)
    (case l4 => k_is)
    (case c4 => k_is)
    (case k4 => k_is)
    (case a5 => k_is)
    (case l5 => k_is)
    (case c5 => k_is)
    (case k5 => k_is)
    (case a6 => k_is)
    (case l6 => k_is)
    (case c6 => k_is)
    (case k6 => k_is)
    (case a7 => k_is)
    (case l7 => k_is)
    (case c7 => k_is)
    (case k7 => k_is)
    (case a8 => k_is)
    (case l8 => k_is)
    (case c8 => k_is)
    (case k8 => k_is)
    (case a9 => k_is)
    (case l9 => k_is)
    (case c9 => k_is)
    (case k9 => k_is)
    (case a10 => k_is)
    (case l10 => k_is)
    (case c10 => k_is)
    (case k10 => k_is)
    (case a11 => k_is)
    (case l11 => k_is)
    (case c11 => k_is)
    (case k11 => k_is)
    (case a12 => k_is)
    (case l12 => k_is)
    (case c12 => k_is)
    (case k12 => k_is)
    (case a13 => k_is)
    (case l13 => k_is)
    (case c13 => k_is)
    (case k13 => k_is)
    (case a14 => k_is)
    (case l14 => k_is)
    (case c14 => k_is)
    (case k14 => k_is)
    (case a15 => k_is)
    (case l15 => k_is)
    (case c15 => k_is)
    (case k15 => k_is)
    (case a16 => k_is)
    (case l16 => k_is)
    (case c16 => k_is)
    (case k16 => k_is)
    (case z_len => k_is)
    (case z_max => k_is)
    (case z_tuple => k_is)
    (case z_list => k_is)
    (case z_int => k_is)
    (case z_repr => k_is)
    (case z_range => k_is)
    (case n_MARKS => k_is)
    (case l_MARKS => k_is)
    (case y_MARKS => show _ ≤ sizeLine; rw [sizeLine_eq]; decide)
    (case v_MARKS => exact .cons ⟨_, rfl⟩ (.cons ⟨_, rfl⟩ (.cons ⟨_, rfl⟩ (.cons ⟨_, rfl⟩ (.cons ⟨_, rfl⟩ (.cons ⟨_, rfl⟩ (.nil)))))))
#print axioms PySem.Challenge.cw_halftruths_k01_sayings_counted_holds
