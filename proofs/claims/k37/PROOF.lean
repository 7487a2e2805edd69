import PyProof.Rows.All
import Wide.All
import OpenK.AllK
import Wide.FinOn
import HandS.ForMost
import HandS.Star
import HandS.FStr
import HandS.RaiseMore
import PyProof.ReprRoads
import PyProof.StrLawsRepr
import HandS.TupAny
import HandS.IsInst
import PyProof.ReprLen
import HandS.Walk
import PyProof.Draws
import KE.GoesMore
import PyProof.EnumMake
import HandS.Deep
import HandS.StrMore
import HandS.DictComp
import KE.DataCmp
import HandS.HotCalls
import HandS.ExcIs
import HandS.ExcField
import HandS.ExcInit
import HandS.Lambda
import HandS.WordsExc
import KE.KExcIs
import PyProof.Rows.CountFlat
import HandS.SetFor
import HandS.TryOnly
import HandS.ExcOwn
import HandS.Strs
import HandS.More
import HandS.TupSets
import KE.KeyNested
import KE.KDictKeyed
import KE.SortData
import HandS.Steps
import KE.KDictCopyH
import HandS.Conv
import KE.DatumOrd
import KE.LtSeq
import KE.LtData
import KE.KSortAsk
import KE.SortCalls
import KE.KTupSum
import HandS.TupMul
import HandS.List
import HandS.Comp
import HandS.Style
import KE.KRevSl
import HandS.Defaults
import HandS.TupLe
import PySem.Challenge.RW_firstletter_k37_whole_closed_plans
set_option Elab.async false
set_option linter.all false
set_option maxRecDepth 100000
set_option maxHeartbeats 8000000
/-! Kn: defs that show data by repr. A promise that holds where nothing is being shown yet (Vow), its body, its call, the law's end. -/
namespace Kn
open PySem PySem.Spec PyProof.Rows L2

section
variable (P : Program) (w : World) (K : PySem.W.Frag) (mg : Str → Option Value) (base : Heap)
structure Vow (k : Nat) (f : Addr) (fd : FuncData) (ps : List Str) (sp : Sp) : Prop where
  many : ∀ vs H Q E, sp vs H Q E → vs.length = ps.length
  goes : ∀ (A : Around) (fr : List Env) (s : Shared) (H : Hp) (g : Args) (us : List Value) (vs : List V) (Q : VK) (E : XK), A.guards = some [] → Room k A →
    Env0 P w K mg base A fr s H → BindsTo s fd g (ps.zip us) → Vals vs us → sp vs H Q E → codeAny (model P w) A (.call (.ref f) g) (CR CX0 fr P w H s Q E) s
end
section
variable {P : Program} {w : World} {K : PySem.W.Frag} {mg : Str → Option Value} {base : Heap} {k : Nat} {f : Addr} {fd : FuncData} {ps N : List Str} {sp : Sp} {x qual : Str} {st : Stmt}

theorem Vow.body (F : Fun K x qual st f fd) (S : FnScope N ps (defScope st)) (many : ∀ vs H Q E, sp vs H Q E → vs.length = ps.length)
    (hb : ∀ (cdv : Value) (A : Around) (fr : List Env) (s : Shared) (H : Hp) (vs : List V) (Q : VK) (E : XK), A.guards = some [] → Room k (A.deeper (envOfC qual (defScope st) s.heap.objs.size f cdv)) → sp vs H Q E →
      ∃ t, PSs (cxOf CX0 P w K mg base N qual (defScope st) f cdv A fr s H E).nox (defBody st) t ∧ t { nx := fun _ H' => Q .non H', rt := Q } (start N vs) H) :
    Vow P w K mg base (k + 1) f fd ps sp := by
  obtain ⟨oc, od, kV, doc, pm, an, cdv, ct, osl, rfl, look, cdOk⟩ := F.ex
  refine ⟨many, fun A fr s H g us vs Q E hg room z bound rv told => ?_⟩
  have held : ∀ b o, base.get? b = some o → s.heap.get? b = some o := fun b o y => (z.bs b o y).1
  have KS : K.In s.heap := z.mod.kin.keeps held
  have parL : ∀ y ∈ ps.zip us, (defScope st).names.lookup y.1 = some .local ∨ ((defScope st).names.lookup y.1 = some .cell ∧ ((cellsFrom (s.heap.objs.size + 1) (defScope st).names []).lookup y.1).isSome = true) := by
    rintro ⟨n, v⟩ hy
    cases S.par n (List.of_mem_zip hy).1 with
    | inl q => exact .inl q
    | inr q => exact .inr ⟨q, PySem.W.cellsFrom_some _ _ _ (.inl q)⟩
  refine codeAny_call_function room.depth (KS _ _ look) rfl S.co S.gen rfl (PySem.W.codeRec_of KS cdOk) (bound _ _ _ _ ?_)
  refine wpAny_newFunctionEnv_cells S.kind parL ?_
  rintro env rfl s1 y
  refine ⟨(z.mod.nolimit.keeps held).keeps y.toInCall.keep, codeAny_func ?_⟩
  obtain ⟨t, ht, ends⟩ := hb cdv A fr s H vs Q E hg (room.deeper _) told
  have I := inv_start (CX := CX0) (P := P) (mg := mg) (E := E) S room.hd z (many _ _ _ _ told) rv y
  refine wpAny_mono (ht.nox.run [] s1 (start N vs) H _ I ends) ?_ (fun _ _ q => q)
  intro fl s2 hs
  cases fl with
  | ret u => obtain ⟨v, σ2, H2, J, r2, q⟩ := hs; exact ⟨v, H2, J.os, J.bare, J.base, J.hok, r2, q⟩
  | next => obtain ⟨σ2, H2, J, q⟩ := hs; exact ⟨V.non, H2, J.os, J.bare, J.base, J.hok, rfl, q⟩
  | brk => obtain ⟨_, _, _, q⟩ := hs; exact q.elim
  | cont => obtain ⟨_, _, _, q⟩ := hs; exact q.elim

theorem Vow.of (F : FnOk P w K mg base CX0 k f fd ps sp) : Vow P w K mg base k f fd ps sp :=
  ⟨F.len, fun A fr s H g us vs Q E _ room z bound rv told => F.run A fr s H g us vs Q E room z bound rv told⟩
end

section
variable {X : Cx} {k : Nat} {f : Addr} {fd : FuncData} {ps : List Str} {sp : Sp} {x : Str} {p pos : Pos} {e : Expr} {es : List Expr} {t : TA}
/-- f(e, ..) of a def that vows -/
theorem pe_vow (F : Vow X.prog X.w X.K X.mg X.base k f fd ps sp) (hq : X.A.guards = some []) (hr : Room k X.A) (hg : Gl X x) (hm : X.mg x = some (.ref f)) (hk : PySem.W.keepIn X.K (.ref f) = true) (hb : Binds X.K fd ps [])
    (ha : PA X (e :: es) t) (hdb : (x == ("__debug__" : Str)) = false := by decide) (he : starEach (e :: es) X.env = (false, eval e X.env) :: starEach es X.env := by rfl) (hpl : (backTo pos (starEach es X.env)).any (·.1) = false := by rfl) :
    PE X (.Call (.Name x p) (e :: es) [] pos) (tCall sp [] E0 t) := by
  refine ⟨fun pins s σ H Q I told => wpAny_Call_Name_kw (ld_glob I hg hm ?_ hdb)⟩
  refine PySem.W.callWith_K (h₀ := X.base) I.ok.mod.kin hk (thn (ha.run pos pins s σ H _ I told) ?_) he hpl
  rintro us s1 ⟨vs, H1, I1, rv, q⟩
  refine ⟨I1.kIn, ?_⟩
  have q : sp (vs ++ []) H1 Q E0 := q
  rw [List.append_nil] at q
  have hl : (us ++ []).length = ps.length := by rw [List.append_nil, ← rv.length]; exact F.many _ _ _ _ q
  have hb1 := hb s1 us I1.kIn hl
  rw [List.append_nil] at hb1
  refine wpAny_call (codeAny_mono (F.goes X.A X.stack s1 H1 ⟨us, []⟩ us vs Q E0 hq hr I1.env0 hb1 rv q) ?_)
  intro r s2 out
  cases r with
  | error _ => exact False.elim out
  | ok fl =>
    cases fl with
    | ret u => exact I1.after out
    | next => exact False.elim out
    | brk => exact False.elim out
    | cont => exact False.elim out

/-- repr(x) of data -/
def rShow (K : PySem.W.Frag) : List V → Hp → VK → Prop := fun xs H Q => ∃ (a : Addr) (d : PyData), xs = [.ref a] ∧ Dp K H (.ref a) d ∧ d.showable = true ∧ d.hasDict = false ∧ d.depth ≤ 20 ∧ d.shown.length ≤ sizeLine ∧ Q (.str d.shown) H
theorem call_show (hq : X.A.guards = some []) (hu : X.A.units + 64 < cLine) : CallR X (.builtin "repr") (rShow X.K) := by
  rintro pins s σ H xs us Q I rv ⟨a, d, rfl, hd, h1, h2, h3, h4, q⟩
  obtain ⟨u, rfl, rfl⟩ := vals1 rv
  obtain ⟨as, rd⟩ := Dp.reads I d _ _ hd rfl
  exact repr_of_reads' rd h1 (PyData.noDict_hsm h2) hq (by omega) (fun _ _ y => y) (fun h' u tk kp => ⟨.str d.shown, H, I.kept kp, ⟨_, rfl⟩, q⟩) h4
end

/-! the law's end -/
section
variable {P : Program} {w : World} {K : PySem.W.Frag} {mg mb : Str → Option Value} {k : Nat} {fa a : Addr} {fd : FuncData} {x : Str} {sp : Sp} {s : Shared} {vs : List Value} {ns : List Int}
theorem end_vow (kin : K.In s.heap) (nsm : s.heap.Ns mainGlobals mg) (nsb : s.heap.Ns builtinsNs mb) (boot : ∀ y : Str, y ≠ "__name__" → mb y = bootBuiltins y) (lim : s.heap.NoLimit) (gens : s.gens = #[])
    (at_ : s.heap.get? a = some { cls := .type "list", data := .seq vs.toArray }) (iv : IntsAre vs ns) (short : ns.length ≤ sizeLine) (room : Room k callerA)
    (F : ∀ base : Heap, K.In base → base.Ns mainGlobals mg → Vow P w K mg base k fa fd [x] sp) (bound : ∀ (z : Shared) (u : Value), BindsTo z fd ⟨[u], []⟩ [(x, u)])
    (told : ∀ H : Hp, Only H → SqL K H a (ns.map V.int) → sp [.ref a] H (fun v _ => v = .bl true) E0) :
    codeAny (model P w) callerA (.call (.ref fa) ⟨[.ref a], []⟩) (fun r s' => r = .ok (.ret (.bool true)) ∧ OldK s.heap s'.heap ∧ s'.os = s.os ∧ AllBare s'.gens) s := by
  have many : ns.length = vs.length := by rw [iv.length]
  have main : ∀ H : Hp, Only H → SqL K H a (ns.map V.int) → HOk P w H s.heap → (∀ b u, H b = some u → b = a ∧ K.lookup a = none) →
      codeAny (model P w) callerA (.call (.ref fa) ⟨[.ref a], []⟩) (fun r s' => r = .ok (.ret (.bool true)) ∧ OldK s.heap s'.heap ∧ s'.os = s.os ∧ AllBare s'.gens) s := by
    intro H only lst ok alone
    have free : ∀ b o, s.heap.get? b = some o → o ≠ { cls := .type "list", data := .seq vs.toArray } → H b = none := by
      intro b o y ne
      cases q : H b with
      | none => rfl
      | some u =>
        obtain ⟨rfl, _⟩ := alone b u q
        rw [at_] at y
        exact absurd (Option.some.inj y).symm ne
    have nsk : ∀ {b : Addr} {m : Str → Option Value}, s.heap.Ns b m → (hidT s.heap H).Ns b m := by
      rintro b m ⟨o, es, ep, y, dd, r⟩
      refine ⟨o, es, ep, hidT_get y (free b o y ?_), dd, r⟩
      rintro rfl
      have dd2 : Data.seq vs.toArray _ = Data.dict es ep := dd
      cases dd2
    have kinB : K.In (hidT s.heap H) := by
      intro b o y
      refine hidT_get (kin b o y) ?_
      cases q : H b with
      | none => rfl
      | some u =>
        obtain ⟨rfl, no⟩ := alone b u q
        rw [no] at y
        cases y
    obtain ⟨mc, c1, c2⟩ := lim
    have md : Mod K mg (hidT s.heap H) := ⟨kinB, nsk nsm, ⟨mb, nsk nsb, boot⟩, mc, nsk c1, c2⟩
    have noL : ∀ {b : Addr}, b ∉ ([] : List Addr) := fun h => by cases h
    have z : Env0 P w K mg (hidT s.heap H) callerA [] s H := ⟨rfl, md, fun b o y => of_hidT y, Nat.le_of_eq (hidT_size _ _), trivial, fun b h => absurd h noL, ok, .of_eq gens⟩
    have run := (F _ kinB (nsk nsm)).goes callerA [] s H ⟨[.ref a], []⟩ [.ref a] [.ref a] _ _ rfl room z (bound s (.ref a)) (.cons rfl .nil) (told H only lst)
    refine codeAny_mono run ?_
    intro r s2 out
    cases r with
    | error _ => exact False.elim out
    | ok fl =>
      cases fl with
      | next => exact False.elim out
      | brk => exact False.elim out
      | cont => exact False.elim out
      | ret u =>
        obtain ⟨v, H2, os, bare, un, ok2, r2, rfl⟩ := out
        obtain rfl : u = Value.bool true := r2
        refine ⟨rfl, OldK.of_keep (fun b o y => ?_), os, bare⟩
        cases q : H b with
        | none => exact un.keep b o y q noL noL
        | some u =>
          rcases only b with n | ⟨ob, xs, n⟩
          · rw [q] at n
            cases n
          · obtain ⟨y1, _⟩ := ok b _ n
            obtain ⟨y2, _⟩ := ok2 b _ (un.frzs b ob _ n)
            rw [y] at y1
            cases y1
            exact y2
  have rv : Vals (ns.map V.int) vs := vals_ints iv
  cases hk : K.lookup a with
  | some o =>
    have y := kin a o hk
    rw [at_] at y
    cases y
    refine main (fun _ => none) (fun _ => .inl rfl) (.inr ⟨_, vs.toArray, _, hk, rfl, rfl, rfl, by rw [List.size_toArray, ← many]; exact short, by simpa using rv⟩) (fun b u q => ?_) (fun b u q => ?_)
    · have q : (none : Option HO) = some u := q
      cases q
    · have q : (none : Option HO) = some u := q
      cases q
  | none =>
    refine main (fun b => if b = a then some (.frz { cls := .type "list", data := .seq vs.toArray } (.lst (ns.map V.int))) else none) (fun b => ?_) (.inl (.inr ⟨{ cls := .type "list", data := .seq vs.toArray }, if_pos rfl⟩)) (fun b u q => ?_) (fun b u q => ?_)
    · by_cases hb : b = a
      · exact .inr ⟨_, _, if_pos hb⟩
      · exact .inl (if_neg hb)
    · by_cases hb : b = a
      · subst hb
        cases (if_pos rfl).symm.trans q
        exact ⟨at_, by rw [List.length_map]; exact short, vs, _, rv, at_⟩
      · cases (if_neg hb).symm.trans q
    · by_cases hb : b = a
      · exact ⟨hb, hk⟩
      · cases (if_neg hb).symm.trans q

theorem walk_vow {l : PySem.W.OpenLaw} {q : Program} {loose : List Str} {XP : (Str → Option Value) → Heap → Prop} {YP : World → Heap → Prop} {d : DefRec} {K : Params → PySem.W.Frag} {sp : PySem.W.Frag → Sp}
    (most : l.most = some 63) (dflt : d.params.defaults = []) (room : Room k callerA) (hY : ∀ (w : World) (h : Heap), YP w h → (K w.params).In h)
    (F : ∀ (w : World) (mg : Str → Option Value) (fa : Addr) (h : Heap), (K w.params).In h → h.Ns mainGlobals mg → mg d.name = some (.ref fa) →
      ∃ fd : FuncData, (∀ (z : Shared) (u : Value), BindsTo z fd ⟨[u], []⟩ [(x, u)]) ∧ ∀ base : Heap, (K w.params).In base → base.Ns mainGlobals mg → Vow l.prog w (K w.params) mg base k fa fd [x] (sp (K w.params)))
    (told : ∀ (K : PySem.W.Frag) (H : Hp) (a : Addr) (ns : List Int), ns.length ≤ 63 → Only H → SqL K H a (ns.map V.int) → sp K [.ref a] H (fun v _ => v = .bl true) E0) :
    PySem.W.WalkO q loose XP YP l.row.toRowW d [] (fun f vs => PySem.call f vs) := by
  refine Att.attach_call most dflt ?_
  intro w s0 s1 mg mb fa o pm cd doc a vs ns G Y ho hd hcd hmg hobj iv short gens
  have kin := hY w _ Y
  obtain ⟨fd, hb, hF⟩ := F w mg fa _ kin G.T.g hmg
  exact end_vow kin G.T.g G.T.b G.T.builtins G.T.nolimit gens hobj iv (Nat.le_trans short (by decide)) room hF hb (fun H only lst => told _ H a ns short only lst)
end
end Kn


/-! Kn: texts: lengths and signs; the pure defs of the program and of the law. -/
namespace Kn
open PySem PySem.Spec PyProof.Rows L2

/-! ### texts -/
def Fit (n : Nat) (x : Str) : Prop := x.length ≤ n ∧ ∀ c ∈ x.cps.toList, c < 16 ^ 8
theorem Fit.mono {n m : Nat} {x : Str} (h : Fit n x) (l : n ≤ m) : Fit m x := ⟨Nat.le_trans h.1 l, h.2⟩
theorem len_app (a b : Str) : (a ++ b).length = a.length + b.length := by
  show (a.cps ++ b.cps).size = _
  rw [Array.size_append]
  rfl
theorem Fit.app {n m : Nat} {a b : Str} (h : Fit n a) (k : Fit m b) : Fit (n + m) (a ++ b) := by
  refine ⟨by rw [len_app]; have := h.1; have := k.1; omega, fun c hc => ?_⟩
  have hc : c ∈ (a.cps ++ b.cps).toList := hc
  rw [Array.toList_append, List.mem_append] at hc
  exact hc.elim (h.2 c) (k.2 c)
theorem app_assoc (a b c : Str) : a ++ b ++ c = a ++ (b ++ c) := by
  show Str.mk (a.cps ++ b.cps ++ c.cps) = Str.mk (a.cps ++ (b.cps ++ c.cps))
  rw [Array.append_assoc]
theorem nil_app (a : Str) : Str.empty ++ a = a := by
  show Str.mk (#[] ++ a.cps) = a
  rw [Array.empty_append]
theorem Fit.join {n m : Nat} {y : Str} (hy : Fit m y) : ∀ (xs : List Str), (∀ x ∈ xs, Fit n x) → Fit (xs.length * (n + m)) (Str.join y xs)
  | [], _ => ⟨Nat.zero_le _, fun c hc => by cases hc⟩
  | [x], h => (h x (List.mem_cons_self ..)).mono (by rw [List.length_singleton]; omega)
  | x :: z :: r, h => by
    have ih := Fit.join hy (z :: r) fun v hv => h v (List.mem_cons_of_mem _ hv)
    have q := ((h x (List.mem_cons_self ..)).app hy).app ih
    refine q.mono ?_
    simp only [List.length_cons, Nat.add_mul, Nat.one_mul]
    omega
theorem fit_string (s : String) : ∀ c ∈ (Str.ofString s).cps.toList, c < 16 ^ 8 := by
  intro c hc
  rw [Str.ofString_eq_toList] at hc
  have hc : c ∈ s.toList.map Char.toNat := by simpa using hc
  obtain ⟨d, _, rfl⟩ := List.mem_map.mp hc
  have h : d.toNat < 1114112 := by
    have v := d.valid
    have e : d.toNat = d.val.toNat := rfl
    rcases v with v | ⟨_, v⟩
    · rw [e]; have v : d.val.toNat < 55296 := v; omega
    · rw [e]; exact v
  exact Nat.lt_trans h (by decide)
theorem len_string (s : String) : (Str.ofString s).length = s.toList.length := by
  rw [Str.ofString_eq_toList]
  show ((s.toList.map Char.toNat).toArray).size = _
  rw [List.size_toArray, List.length_map]

/-! ### comprehensions that change nothing -/
theorem tupS {K : PySem.W.Frag} {H H' : Hp} {a : Addr} {xs : List V} (e : Same H H') (h : SqT K H a xs) : SqT K H' a xs := by
  rcases h with (h | ⟨o, h⟩) | h
  · exact .inl (.inl (e _ _ h))
  · exact .inl (.inr ⟨o, e _ _ h⟩)
  · exact .inr h
theorem same_new {H : Hp} {p : Addr} {o : HO} (h : H p = none) : Same H (upd H p o) := fun b x e => by
  rw [upd_ne (ne_of_none e h)]
  exact e
theorem putS {H H' : Hp} {p : Addr} {o : HO} (e : Same H H') (h : H p = none) : Same H (upd H' p o) := fun b x q => by
  rw [upd_ne (ne_of_none q h)]
  exact e _ _ q
theorem small' {n : Nat} (h : n ≤ 1000) : n < sizeLine := Nat.lt_of_le_of_lt h (by decide)
theorem take_next {ys : List V} {i : Nat} {y : V} (h : ys[i]? = some y) : ys.take i ++ [y] = ys.take (i + 1) := by
  rw [List.take_add_one, h]
  rfl
theorem lc_mapT {K : PySem.W.Frag} {a : Addr} {xs : List V} {slot : Nat} {te tl : TE} {vs : List Nat} {σ : L2.St} {H : Hp} {Q : VK} (ys : List V) (hl : ys.length = xs.length) (hs : xs.length ≤ 1000) (hT : SqT K H a xs)
    (htl : ∀ R : VK, R (.ref a) H → tl σ H R) (w : ∀ v, wipe ((wipe σ vs).set slot (some v)) vs = wipe σ vs)
    (turn : ∀ (i : Nat) (x y : V) (G : Hp) (R : VK), xs[i]? = some x → ys[i]? = some y → Same H G → (∀ G', Same G G' → R y G') → te ((wipe σ vs).set slot (some x)) G R)
    (done : ∀ (D : Addr) (G : Hp), H D = none → Same H G → G D = some (.lst ys) → Q (.ref D) G) : tLc (iTup K tl) (gName slot) tYes te vs σ H Q := by
  refine htl _ ⟨a, rfl, ⟨xs, hT⟩, fun D nD => ?_⟩
  refine lc_tup (K := K) (a := a) (xs := xs) (fun i G => Same H G ∧ G D = some (.lst (ys.take i))) ⟨same_new nD, upd_same⟩ (fun i G _ h => tupS h.1 hT) ?_ ?_
  · rintro i x G hx ⟨sm, hD⟩
    have hi : i < xs.length := (List.getElem?_eq_some_iff.mp hx).1
    have hy : ys[i]? = some (ys[i]'(by omega)) := List.getElem?_eq_getElem (by omega)
    refine ⟨w x, ?_⟩
    simp only [tYes, ↓reduceIte]
    refine turn i x _ G _ hx hy sm fun G' s' => ⟨ys.take i, s' _ _ hD, ?_, ?_, ?_⟩
    · rw [List.length_take]
      exact small' (by omega)
    · exact putS (sm.trans s') nD
    · rw [upd_same, take_next hy]
  · rintro G ⟨sm, hD⟩
    refine done D G nD sm ?_
    rw [hD, List.take_of_length_le (by omega)]
theorem lc_mapL {K : PySem.W.Frag} {a : Addr} {xs : List V} {slot : Nat} {te tl : TE} {vs : List Nat} {σ : L2.St} {H : Hp} {Q : VK} (ys : List V) (hl : ys.length = xs.length) (hs : xs.length ≤ 1000) (hT : SqL K H a xs)
    (htl : ∀ R : VK, R (.ref a) H → tl σ H R) (w : ∀ v, wipe ((wipe σ vs).set slot (some v)) vs = wipe σ vs)
    (turn : ∀ (i : Nat) (x y : V) (G : Hp) (R : VK), xs[i]? = some x → ys[i]? = some y → Same H G → (∀ G', Same G G' → R y G') → te ((wipe σ vs).set slot (some x)) G R)
    (done : ∀ (D : Addr) (G : Hp), H D = none → Same H G → G D = some (.lst ys) → Q (.ref D) G) : tLc (iList K tl) (gName slot) tYes te vs σ H Q := by
  refine htl _ ⟨a, rfl, ⟨xs, hT⟩, fun D nD => ?_⟩
  refine lc_list (K := K) (a := a) (xs := xs) (fun i G => Same H G ∧ G D = some (.lst (ys.take i))) ⟨same_new nD, upd_same⟩ (fun i G _ h => h.1.seq hT) ?_ ?_
  · rintro i x G hx ⟨sm, hD⟩
    have hi : i < xs.length := (List.getElem?_eq_some_iff.mp hx).1
    have hy : ys[i]? = some (ys[i]'(by omega)) := List.getElem?_eq_getElem (by omega)
    refine ⟨w x, ?_⟩
    simp only [tYes, ↓reduceIte]
    refine turn i x _ G _ hx hy sm fun G' s' => ⟨ys.take i, s' _ _ hD, ?_, ?_, ?_⟩
    · rw [List.length_take]
      exact small' (by omega)
    · exact putS (sm.trans s') nD
    · rw [upd_same, take_next hy]
  · rintro G ⟨sm, hD⟩
    refine done D G nD sm ?_
    rw [hD, List.take_of_length_le (by omega)]

/-! ### str of an int or a text -/
def shV : V → Str
  | .int i => Str.ofString (toString i)
  | .str z => z
  | _ => Str.empty
def FlatV : V → Prop
  | .int i => i.natAbs.log2 < 1920
  | .str _ => True
  | _ => False
theorem call_str_flat {X : Cx} : CallR X (.type "str") (fun xs H Q => ∃ v, xs = [v] ∧ FlatV v ∧ Q (.str (shV v)) H) := by
  rintro pins s σ H xs us Q I rv ⟨v, rfl, hv, q⟩
  cases v with
  | int i => exact call_str_int pins s σ H _ us Q I rv ⟨i, rfl, hv, q⟩
  | str z => exact SkE.call_str_str pins s σ H _ us Q I rv ⟨z, rfl, q⟩
  | _ => exact hv.elim

/-! ### the data -/
structure Ent where
  name : Str
  fee : Int
  has : Bool
  row : List Str
def Ent.ok (e : Ent) : Prop := Fit 8 e.name ∧ e.fee.natAbs < 10 ^ 60 ∧ e.row.length ≤ 8 ∧ ∀ s ∈ e.row, Fit 8 s
def EntAt (K : PySem.W.Frag) (H : Hp) (v : V) (e : Ent) : Prop := ∃ p q, v = .ref p ∧ SqT K H p [.str e.name, .int e.fee, .bl e.has, .ref q] ∧ SqT K H q (e.row.map V.str)
inductive EntsAt (K : PySem.W.Frag) (H : Hp) : List V → List Ent → Prop
  | nil : EntsAt K H [] []
  | cons {v : V} {vs : List V} {e : Ent} {es : List Ent} : EntAt K H v e → EntsAt K H vs es → EntsAt K H (v :: vs) (e :: es)
theorem EntAt.same {K : PySem.W.Frag} {H H' : Hp} {v : V} {e : Ent} (s : Same H H') : EntAt K H v e → EntAt K H' v e := fun ⟨p, q, a, b, c⟩ => ⟨p, q, a, tupS s b, tupS s c⟩
theorem EntsAt.same {K : PySem.W.Frag} {H H' : Hp} (s : Same H H') : ∀ {vs : List V} {es : List Ent}, EntsAt K H vs es → EntsAt K H' vs es
  | _, _, .nil => .nil
  | _, _, .cons a b => .cons (a.same s) (EntsAt.same s b)
theorem EntsAt.len {K : PySem.W.Frag} {H : Hp} : ∀ {vs : List V} {es : List Ent}, EntsAt K H vs es → vs.length = es.length
  | _, _, .nil => rfl
  | _, _, .cons _ b => congrArg Nat.succ (EntsAt.len b)
theorem EntsAt.get {K : PySem.W.Frag} {H : Hp} : ∀ {vs : List V} {es : List Ent} {i : Nat} {v : V}, EntsAt K H vs es → vs[i]? = some v → ∃ e, es[i]? = some e ∧ EntAt K H v e
  | _, _, i, v, .nil, h => by cases h
  | _, _, 0, v, .cons a b, h => by
    have h : some _ = some v := h
    cases h
    exact ⟨_, rfl, a⟩
  | _, _, i + 1, v, .cons a b, h => EntsAt.get (i := i) b h
theorem EntsAt.append {K : PySem.W.Frag} {H : Hp} : ∀ {vs ws : List V} {es ds : List Ent}, EntsAt K H vs es → EntsAt K H ws ds → EntsAt K H (vs ++ ws) (es ++ ds)
  | _, _, _, _, .nil, h => h
  | _, _, _, _, .cons a b, h => .cons a (EntsAt.append b h)
theorem EntsAt.rev {K : PySem.W.Frag} {H : Hp} : ∀ {vs : List V} {es : List Ent}, EntsAt K H vs es → EntsAt K H vs.reverse es.reverse
  | _, _, .nil => .nil
  | _, _, .cons a b => by
    rw [List.reverse_cons, List.reverse_cons]
    exact (EntsAt.rev b).append (.cons a .nil)
structure Pg where
  es : List Ent
  asks : Str
def Pg.ok (g : Pg) : Prop := g.es.length ≤ 12 ∧ (∀ e ∈ g.es, e.ok) ∧ Fit 8 g.asks
def PgAt (K : PySem.W.Frag) (H : Hp) (v : V) (g : Pg) : Prop := ∃ p q vs, v = .ref p ∧ SqT K H p [.ref q, .str g.asks] ∧ SqT K H q vs ∧ EntsAt K H vs g.es
theorem PgAt.same {K : PySem.W.Frag} {H H' : Hp} {v : V} {g : Pg} (s : Same H H') : PgAt K H v g → PgAt K H' v g := fun ⟨p, q, vs, a, b, c, d⟩ => ⟨p, q, vs, a, tupS s b, tupS s c, d.same s⟩

/-! ### the texts -/
def tabT (t : List Str) : Str := if t = [] then ("-" : Str) else Str.join "," t
def wordT (b : Bool) : Str := if b = true then ("has" : Str) else ("not" : Str)
def feeT (i : Int) : Str := Str.ofString (toString i)
def lineT (e : Ent) : Str := Str.join " " ["kind", e.name, feeT e.fee, wordT e.has, tabT e.row]
def pageT (g : Pg) : Str := Str.join "\n" (g.es.map lineT ++ [("asker " : Str) ++ g.asks])
theorem fit_of (s : String) {n : Nat} (h : s.toList.length ≤ n) : Fit n (Str.ofString s) := ⟨by rw [len_string]; exact h, fit_string s⟩
theorem fee_log {i : Int} (h : i.natAbs < 10 ^ 60) : i.natAbs.log2 < 1920 := by
  by_cases z : i.natAbs = 0
  · rw [z]; decide
  · exact (Nat.log2_lt z).mpr (Nat.lt_trans h (by decide))
theorem feeT_fit {i : Int} (h : i.natAbs < 10 ^ 60) : Fit 61 (feeT i) := by
  refine fit_of _ ?_
  have := int_text_length_le10 (k := 60) (by decide) h
  rw [String.length_toList]
  exact this
theorem tabT_fit {t : List Str} (h : t.length ≤ 8) (k : ∀ s ∈ t, Fit 8 s) : Fit 100 (tabT t) := by
  unfold tabT
  split
  · exact fit_of "-" (by decide)
  · refine (Fit.join (m := 1) (fit_of "," (by decide)) t k).mono ?_
    have := Nat.mul_le_mul_right (8 + 1) h
    omega
theorem wordT_fit (b : Bool) : Fit 3 (wordT b) := by
  unfold wordT
  split
  · exact fit_of "has" (by decide)
  · exact fit_of "not" (by decide)
theorem lineT_fit {e : Ent} (h : e.ok) : Fit 600 (lineT e) := by
  obtain ⟨h1, h2, h3, h4⟩ := h
  refine (Fit.join (n := 100) (m := 1) (fit_of " " (by decide)) _ ?_).mono (by simp)
  intro x hx
  simp only [List.mem_cons, List.not_mem_nil, or_false] at hx
  rcases hx with rfl | rfl | rfl | rfl | rfl
  · exact (fit_of "kind" (n := 100) (by decide))
  · exact h1.mono (by omega)
  · exact (feeT_fit h2).mono (by omega)
  · exact (wordT_fit _).mono (by omega)
  · exact (tabT_fit h3 h4)
theorem askT_fit {g : Pg} (h : g.ok) : Fit 600 (("asker " : Str) ++ g.asks) := ((fit_of "asker " (n := 6) (by decide)).app h.2.2).mono (by omega)
theorem pageT_fit {g : Pg} (h : g.ok) : Fit 10000 (pageT g) := by
  refine (Fit.join (n := 600) (m := 1) (fit_of "\n" (by decide)) _ ?_).mono ?_
  · intro x hx
    rcases List.mem_append.mp hx with hx | hx
    · obtain ⟨e, he, rfl⟩ := List.mem_map.mp hx
      exact lineT_fit (h.2.1 e he)
    · obtain rfl := List.mem_singleton.mp hx
      exact askT_fit h
  · have := Nat.mul_le_mul_right (600 + 1) h.1
    rw [List.length_append, List.length_map, List.length_singleton, Nat.add_mul]
    omega
theorem kind_sp : ("kind " : Str) = ("kind" : Str) ++ (" " : Str) := by decide +kernel
theorem line_chain (e : Ent) : Str.empty ++ ("kind " : Str) ++ e.name ++ (" " : Str) ++ feeT e.fee ++ (" " : Str) ++ wordT e.has ++ (" " : Str) ++ tabT e.row = lineT e := by
  unfold lineT
  simp only [Str.join, app_assoc, nil_app, kind_sp]
end Kn


namespace Kn
open PySem PySem.Spec PyProof.Rows L2
def topS (i : Nat) : Stmt := PySem.Challenge.pw_firstletter_k37_whole_closed_plans.main.body.getD i (.Pass ⟨0, 0, 0, 0⟩)
theorem sum_le {n : Nat} : ∀ (ys : List Str), (∀ y ∈ ys, Fit n y) → (ys.map (·.length)).sum ≤ ys.length * n
  | [], _ => Nat.zero_le _
  | y :: r, h => by
    have ih := sum_le r fun v hv => h v (List.mem_cons_of_mem _ hv)
    have q := (h y (List.mem_cons_self ..)).1
    rw [List.map_cons, List.sum_cons, List.length_cons, Nat.add_mul]
    omega
/-- what join asks: few short texts -/
theorem join_room {n m : Nat} {a : Str} {ys : List Str} (h : ∀ y ∈ ys, Fit n y) (ha : a.length ≤ 10) (hl : ys.length ≤ m) (hm : m * (n + 10) ≤ 16777216) : (ys.map (·.length)).sum + ys.length * a.length ≤ 16777216 := by
  have h1 := sum_le ys h
  have h2 : ys.length * (n + 10) ≤ m * (n + 10) := Nat.mul_le_mul_right _ hl
  have h3 : ys.length * a.length ≤ ys.length * 10 := Nat.mul_le_mul_left _ ha
  rw [Nat.mul_add] at h2
  omega
theorem size16 : 16777216 ≤ sizeLine := by decide
theorem map_get {α β : Type} {f : α → β} {l : List α} {i : Nat} {y : β} (h : (l.map f)[i]? = some y) : ∃ x, l[i]? = some x ∧ f x = y := by
  rw [List.getElem?_map] at h
  exact Option.map_eq_some_iff.mp h
theorem seq_asg {te : TE} {g : TG} {u : TS} {D : Ends} {σ : L2.St} {H : Hp} (h : te σ H fun x H1 => g x σ H1 (u D)) : tSeq (tAsg te g) u D σ H := h
theorem big_of {n : Nat} {x : Str} (h : Fit n x) (l : n ≤ 100000) : x.length ≤ sizeLine := Nat.le_trans h.1 (Nat.le_trans l (by decide))
end Kn


namespace Kn
open PySem PySem.Spec PyProof.Rows L2
/-! ### the feed -/
abbrev kCells : Key := .inr "cells"
abbrev kAt : Key := .inr "spot"
abbrev kHeld : Key := .inr "left"
abbrev kCount : Key := .inr "drawn"
theorem d1 : ¬ kCells = kAt := by decide +kernel
theorem d2 : ¬ kCells = kHeld := by decide +kernel
theorem d3 : ¬ kCells = kCount := by decide +kernel
theorem d4 : ¬ kAt = kHeld := by decide +kernel
theorem d5 : ¬ kAt = kCount := by decide +kernel
theorem d6 : ¬ kHeld = kCount := by decide +kernel
structure Four (a : Addr) (t h n : Int) (kvs : List (Key × V)) : Prop where
  few : kvs.length ≤ 4
  cells : valV kvs kCells = some (.ref a)
  at_ : valV kvs kAt = some (.int t)
  held : valV kvs kHeld = some (.int h)
  count : valV kvs kCount = some (.int n)
theorem putK_len {kvs : List (Key × V)} {k : Key} {x v : V} (h : valV kvs k = some x) : (putK kvs k v).length = kvs.length := by
  unfold putK
  rw [if_pos (by rw [valV_any, h]; rfl), List.length_map]
section
variable {a : Addr} {t h n : Int} {kvs : List (Key × V)}
theorem Four.put_at (q : Four a t h n kvs) (x : Int) : Four a x h n (putK kvs kAt (.int x)) :=
  ⟨by rw [putK_len q.at_]; exact q.few, by rw [valV_put, if_neg d1]; exact q.cells, by rw [valV_put, if_pos rfl], by rw [valV_put, if_neg fun e => d4 e.symm]; exact q.held, by rw [valV_put, if_neg fun e => d5 e.symm]; exact q.count⟩
theorem Four.put_held (q : Four a t h n kvs) (x : Int) : Four a t x n (putK kvs kHeld (.int x)) :=
  ⟨by rw [putK_len q.held]; exact q.few, by rw [valV_put, if_neg d2]; exact q.cells, by rw [valV_put, if_neg d4]; exact q.at_, by rw [valV_put, if_pos rfl], by rw [valV_put, if_neg fun e => d6 e.symm]; exact q.count⟩
theorem Four.put_count (q : Four a t h n kvs) (x : Int) : Four a t h x (putK kvs kCount (.int x)) :=
  ⟨by rw [putK_len q.count]; exact q.few, by rw [valV_put, if_neg d3]; exact q.cells, by rw [valV_put, if_neg d5]; exact q.at_, by rw [valV_put, if_neg d6]; exact q.held, by rw [valV_put, if_pos rfl]⟩
theorem four_new (a : Addr) : Four a 0 0 0 (mergeK [] [(kCells, .ref a), (kAt, .int 0), (kHeld, .int 0), (kCount, .int 0)]) := by
  have e : mergeK [] [(kCells, V.ref a), (kAt, .int 0), (kHeld, .int 0), (kCount, .int 0)] = putK (putK (putK (putK [] kCells (.ref a)) kAt (.int 0)) kHeld (.int 0)) kCount (.int 0) := rfl
  refine ⟨length_mergeK _ _, ?_, ?_, ?_, ?_⟩
  · rw [e, valV_put, if_neg d3, valV_put, if_neg d2, valV_put, if_neg d1, valV_put, if_pos rfl]
  · rw [e, valV_put, if_neg d5, valV_put, if_neg d4, valV_put, if_pos rfl]
  · rw [e, valV_put, if_neg d6, valV_put, if_pos rfl]
  · rw [e, valV_put, if_pos rfl]
end
/-- the feed at f, its cells at a; at most c draws were made -/
structure Fd (f a : Addr) (ns : List Int) (H : Hp) (c : Nat) : Prop where
  ex : ∃ kvs t h n, H f = some (.dK kvs) ∧ Four a t h n kvs ∧ 0 ≤ t ∧ t ≤ n ∧ n ≤ (c : Int)
  cl : H a = some (.lst (ns.map V.int))
  few : ns.length ≤ 63
def Keep (f : Addr) (H H' : Hp) : Prop := ∀ b o, b ≠ f → H b = some o → H' b = some o
theorem Keep.refl (f : Addr) (H : Hp) : Keep f H H := fun _ _ _ h => h
theorem Keep.trans {f : Addr} {H H1 H2 : Hp} (a : Keep f H H1) (b : Keep f H1 H2) : Keep f H H2 := fun c o n h => b c o n (a c o n h)
theorem keep_same {f : Addr} {H H1 : Hp} (s : Same H H1) : Keep f H H1 := fun b o _ h => s b o h
theorem keep_upd {f : Addr} {H : Hp} {o : HO} : Keep f H (upd H f o) := fun b x n h => by rw [upd_ne n]; exact h
theorem Fd.more {f a : Addr} {ns : List Int} {H : Hp} {c d : Nat} (h : Fd f a ns H c) (l : c ≤ d) : Fd f a ns H d := by
  obtain ⟨⟨kvs, t, x, n, h1, h2, h3, h4, h5⟩, h6, h7⟩ := h
  exact ⟨⟨kvs, t, x, n, h1, h2, h3, h4, by omega⟩, h6, h7⟩
theorem Fd.same {f a : Addr} {ns : List Int} {H H' : Hp} {c : Nat} (h : Fd f a ns H c) (s : Same H H') : Fd f a ns H' c := by
  obtain ⟨⟨kvs, t, x, n, h1, h2⟩, h6, h7⟩ := h
  exact ⟨⟨kvs, t, x, n, s _ _ h1, h2⟩, s _ _ h6, h7⟩
/-- a list of one's own changes -/
theorem Fd.own {f a D : Addr} {ns : List Int} {H : Hp} {c : Nat} {o : HO} (h : Fd f a ns H c) (n1 : f ≠ D) (n2 : a ≠ D) : Fd f a ns (upd H D o) c := by
  obtain ⟨⟨kvs, t, x, n, h1, h2⟩, h6, h7⟩ := h
  exact ⟨⟨kvs, t, x, n, by rw [upd_ne n1]; exact h1, h2⟩, by rw [upd_ne n2]; exact h6, h7⟩
theorem Fd.ne {f a : Addr} {ns : List Int} {H : Hp} {c : Nat} (h : Fd f a ns H c) : a ≠ f := by
  obtain ⟨⟨kvs, t, x, n, h1, _⟩, h6, _⟩ := h
  exact ne_of h6 h1 (by intro z; cases z)
theorem Fd.free {f a D : Addr} {ns : List Int} {H : Hp} {c : Nat} (h : Fd f a ns H c) (n : H D = none) : f ≠ D ∧ a ≠ D := by
  obtain ⟨⟨kvs, t, x, n', h1, _⟩, h6, _⟩ := h
  exact ⟨ne_of_none h1 n, ne_of_none h6 n⟩
/-- the feed's dict changes -/
theorem Fd.put {f a : Addr} {ns : List Int} {H : Hp} {c : Nat} {kvs : List (Key × V)} {t h n : Int} (q : Fd f a ns H c) (F : Four a t h n kvs) (h0 : 0 ≤ t) (h1 : t ≤ n) (h2 : n ≤ (c : Int)) : Fd f a ns (upd H f (.dK kvs)) c :=
  ⟨⟨kvs, t, h, n, upd_same, F, h0, h1, h2⟩, by rw [upd_ne q.ne]; exact q.cl, q.few⟩

theorem dpAll_ints {K : PySem.W.Frag} {H : Hp} : ∀ ns : List Int, DpAll K H (ns.map V.int) (ns.map PyData.int)
  | [] => .nil
  | n :: r => .cons (.int n) (dpAll_ints r)
end Kn


namespace Kn
open PySem PySem.Spec PyProof.Rows L2
abbrev nDraw : List Str := ["_law_feed_here", "_law_wide", "_law_digit", "_law_spot", "_law_cell", "_law_mixed"]
theorem scDraw : FnScope nDraw ["_law_feed_here", "_law_wide"] (defScope (topS 41)) := ⟨rfl, rfl, rfl, by decide +kernel, rfl, by decide +kernel, by decide +kernel⟩
theorem lay_ints : ∀ ns : List Int, PyData.canLayAll0 (ns.map PyData.int) = true
  | [] => rfl
  | n :: r => by
    show (PyData.canLay0 (.int n) && PyData.canLayAll0 (r.map PyData.int)) = true
    rw [lay_ints r]
    rfl
theorem depth_ints : ∀ ns : List Int, PyData.depthAll (ns.map PyData.int) = 0
  | [] => rfl
  | n :: r => by
    show max (PyData.depth (.int n)) (PyData.depthAll (r.map PyData.int)) = 0
    rw [depth_ints r]
    rfl
theorem shaped_ints (ns : List Int) : SeqAt.shaped (.list (ns.map PyData.int)) = true := by
  unfold SeqAt.shaped
  have h1 : PyData.canLay0 (.list (ns.map PyData.int)) = true := by
    show PyData.canLayAll0 (ns.map PyData.int) = true
    exact lay_ints ns
  have h2 : PyData.depth (.list (ns.map PyData.int)) = 1 := by
    show PyData.depthAll (ns.map PyData.int) + 1 = 1
    rw [depth_ints]
  rw [h1, h2]
  rfl
theorem eqv_nil_ints (ns : List Int) : PyData.eqv (.list (ns.map PyData.int)) (.list []) = ns.isEmpty := by
  cases ns with
  | nil => rfl
  | cons n r => rfl
theorem mul_bound {x b : Int} (h0 : 0 ≤ x) (h1 : x < 2147483629) : -(2 ^ 64) < x ∧ x < 2 ^ 64 := ⟨by omega, by omega⟩
theorem at_mod {ns : List Int} {t : Int} (h : 0 ≤ t) (pos : 0 < ns.length) : ∃ x : Int, atI (ns.map V.int) (t % ((ns.map V.int).length : Int)) = some (.int x) := by
  rw [List.length_map]
  have h0 := Int.emod_nonneg t (show (ns.length : Int) ≠ 0 by omega)
  have h1 := Int.emod_lt_of_pos t (show (0 : Int) < (ns.length : Int) by omega)
  obtain ⟨j, hj⟩ := Int.eq_ofNat_of_zero_le h0
  rw [hj] at h1 ⊢
  have hl : j < ns.length := by omega
  refine ⟨ns[j], at_of rfl ?_⟩
  rw [List.getElem?_map, List.getElem?_eq_getElem hl]
  rfl
def spDraw : Sp := fun vs H Q _ => ∃ (f a : Addr) (ns : List Int) (c : Nat) (m : Int), vs = [.ref f, .int m] ∧ 0 < m ∧ m ≤ 1000 ∧ Fd f a ns H c ∧ c < 100000 ∧
  ∀ (r : Int) (H' : Hp), 0 ≤ r → r < m → Keep f H H' → Fd f a ns H' (c + 1) → Q (.int r) H'
section
variable {P : Program} {w : World} {K : PySem.W.Frag} {mg : Str → Option Value} {base : Heap}
theorem ok_draw {g : Addr} {fd : FuncData} (F : Fun K "_law_draw" "_law_draw" (topS 41) g fd) (mi : mg "int" = none) (ml : mg "len" = none) : FnOk P w K mg base CX0 1 g fd ["_law_feed_here", "_law_wide"] spDraw := by
  refine F.ok scDraw (fun vs H Q E h => ?_) (fun cdv A outer s H vs Q E hr h => ?_)
  · obtain ⟨f, a, ns, c, m, rfl, _⟩ := h
    rfl
  · obtain ⟨f, a, ns, c, m, rfl, m0, m1, fd0, hc, q⟩ := h
    have hu := hu_of hr
    obtain ⟨kvs, t, hh, n, e1, four, t0, tn, nc⟩ := fd0.ex
    refine ⟨_, (pss_cons (ps_dput hu (pv 0) pe_str (pe_op op_add (pe_dget hu (pv 0) pe_str (fun _ _ => rfl)) pe_int) rfl)
      (pss_cons (ps_if (pt_cmpR op_gt (pe_dget hu (pv 0) pe_str (fun _ _ => rfl)) pe_int (nomark _)) (pss_cons (ps_set (i := 2) scDraw.nd rfl (.inl rfl) (pe_op op_mod (pe_callTy call_int1 (by rfl) mi boot_int (pa_cons (pe_dget hu (pv 0) pe_str (fun _ _ => rfl)) pa_nil)) (pv 1)))
      (pss_cons (ps_dput hu (pv 0) pe_str (pe_op op_fdivN (pe_dget hu (pv 0) pe_str (fun _ _ => rfl)) (pv 1)) rfl)
      (pss_one (ps_ret (pv 2))))) pss_nil)
      (pss_cons (ps_set (i := 3) scDraw.nd rfl (.inl rfl) (pe_dget hu (pv 0) pe_str (fun _ _ => rfl)))
      (pss_cons (ps_dput hu (pv 0) pe_str (pe_op op_add (pv 3) pe_int) rfl)
      (pss_cons (ps_set (i := 4) scDraw.nd rfl (.inl rfl) (pe_ifExp (pt_cmpR (op_neD hr.units) (pe_dget hu (pv 0) pe_str (fun _ _ => rfl)) (pe_lst pa_nil) (nomark _)) (pe_ix ix_list (pe_dget hu (pv 0) pe_str (fun _ _ => rfl)) (pe_op op_mod (pe_callTy call_int1 (by rfl) mi boot_int (pa_cons (pv 3) pa_nil)) (pe_callB call_len_seq (by rfl) ml PySem.boot_len (pa_cons (pe_dget hu (pv 0) pe_str (fun _ _ => rfl)) pa_nil))) (fun _ _ => rfl)) pe_int))
      (pss_cons (ps_if (PW.pt (pw_and (pt_cmpR op_ge (pv 4) (pe_op op_pow pe_int pe_int) (nomark _)) (pw_and1 (pt_cmpR op_lt (pv 3) (pe_callB call_len_seq (by rfl) ml PySem.boot_len (pa_cons (pe_dget hu (pv 0) pe_str (fun _ _ => rfl)) pa_nil)) (nomark _))))) (pss_cons (ps_dput hu (pv 0) pe_str (pe_op op_fdivN (pv 4) (pv 1)) rfl)
      (pss_one (ps_ret (pe_op op_mod (pe_callTy call_int1 (by rfl) mi boot_int (pa_cons (pv 4) pa_nil)) (pv 1))))) pss_nil)
      (pss_cons (ps_set (i := 5) scDraw.nd rfl (.inl rfl) (pe_op op_mod (pe_callTy call_int1 (by rfl) mi boot_int (pa_cons (pe_op op_add (pe_op op_add (pe_op op_mod (pe_callTy call_int1 (by rfl) mi boot_int (pa_cons (pv 4) pa_nil)) pe_int) (pe_op op_mul pe_int (pe_dget hu (pv 0) pe_str (fun _ _ => rfl)))) pe_int) pa_nil)) pe_int))
      (pss_cons (ps_set (i := 5) scDraw.nd rfl (.inl rfl) (pe_op op_mod (pe_callTy call_int1 (by rfl) mi boot_int (pa_cons (pe_op op_add (pe_op op_add (pe_op op_mul (pv 5) (pv 5)) (pe_op op_mul pe_int (pe_dget hu (pv 0) pe_str (fun _ _ => rfl)))) pe_int) pa_nil)) pe_int))
      (pss_one (ps_ret (pe_op op_mod (pe_callTy call_int1 (by rfl) mi boot_int (pa_cons (pe_op op_fdiv (pe_op op_mod (pe_callTy call_int1 (by rfl) mi boot_int (pa_cons (pe_op op_add (pe_op op_mul (pv 5) (pv 5)) (pe_op op_mul pe_int (pv 5))) pa_nil)) pe_int) pe_int) pa_nil)) (pv 1)))))))))))), ?_⟩
    have n0 : 0 ≤ n := Int.le_trans t0 tn
    have dg : ∀ {H : Hp} {kvs : List (Key × V)} {k : Key} {v : V}, H f = some (.dK kvs) → valV kvs k = some v → DGet H f (kV k) (some v) := fun e z => by
      rw [← z]
      exact DGet.k e
    have four2 := four.put_count (n + 1)
    have fd2 : Fd f a ns (upd H f (.dK (putK kvs kCount (.int (n + 1))))) (c + 1) := (fd0.more (Nat.le_succ c)).put four2 t0 (by omega) (by omega)
    refine ⟨_, rfl, f, .int n, rfl, dg (k := kCount) e1 four.count, n, 1, rfl, rfl, _, rfl, f, _, rfl, DPut.k (k := kCount) e1 (small' (Nat.le_trans four.few (by decide))), ?_⟩
    have k2 : Keep f H (upd H f (.dK (putK kvs kCount (.int (n + 1))))) := keep_upd
    have e2 : (upd H f (.dK (putK kvs kCount (.int (n + 1))))) f = some (.dK (putK kvs kCount (.int (n + 1)))) := upd_same
    generalize upd H f (.dK (putK kvs kCount (.int (n + 1)))) = H2 at fd2 e2 k2 ⊢
    generalize putK kvs kCount (.int (n + 1)) = kv2 at four2 e2
    have m3 : ∀ x : Int, 0 ≤ x % m ∧ x % m < m := fun x => ⟨Int.emod_nonneg _ (by omega), Int.emod_lt_of_pos _ m0⟩
    have cd : CDivN hh m := ⟨by omega, by omega⟩
    refine ⟨_, rfl, f, .int hh, rfl, dg (k := kHeld) e2 four2.held, hh, 0, rfl, rfl, _, rfl, ite2 (fun _ => ?_) (fun _ => ?_)⟩
    · -- a figure of what is left
      refine ⟨_, rfl, f, .int hh, rfl, dg (k := kHeld) e2 four2.held, .inl ⟨hh, rfl, _, rfl, hh, m, rfl, rfl, m0, ?_⟩⟩
      refine ⟨_, rfl, f, .int hh, rfl, dg (k := kHeld) e2 four2.held, _, rfl, hh, m, rfl, rfl, cd, _, rfl, f, _, rfl, DPut.k (k := kHeld) e2 (small' (Nat.le_trans four2.few (by decide))), ?_⟩
      exact ⟨_, rfl, q _ _ (m3 hh).1 (m3 hh).2 (k2.trans keep_upd) (fd2.put (four2.put_held _) t0 (by omega) (by omega))⟩
    · -- the next cell
      refine ⟨_, rfl, f, .int t, rfl, dg (k := kAt) e2 four2.at_, ?_⟩
      have four3 := four2.put_at (t + 1)
      have fd3 := fd2.put four3 (by omega) (by omega) (by omega)
      have k3 := k2.trans (keep_upd (f := f) (H := H2) (o := .dK (putK kv2 kAt (.int (t + 1)))))
      have e3 : (upd H2 f (.dK (putK kv2 kAt (.int (t + 1))))) f = some (.dK (putK kv2 kAt (.int (t + 1)))) := upd_same
      refine ⟨_, rfl, t, 1, rfl, rfl, _, rfl, f, _, rfl, DPut.k (k := kAt) e2 (small' (Nat.le_trans four2.few (by decide))), ?_⟩
      generalize upd H2 f (.dK (putK kv2 kAt (.int (t + 1)))) = H3 at fd3 e3 k3 ⊢
      generalize putK kv2 kAt (.int (t + 1)) = kv3 at four3 e3
      have cl : SqL K H3 a (ns.map V.int) := .inl (.inl fd3.cl)
      refine ⟨_, rfl, f, .ref a, rfl, dg (k := kCells) e3 four3.cells, Nat.zero_le _, fun z nz => ⟨.list (ns.map PyData.int), .list [], .lst (.inl (.inl (by rw [upd_ne (fd3.free nz).2]; exact fd3.cl))) (dpAll_ints ns), .lst (.inl (.inl upd_same)) .nil, shaped_ints ns, rfl, _, rfl, ?_⟩⟩
      have k4 : Keep f H (upd H3 z (.lst [])) := k3.trans (keep_same (same_new nz))
      have fd4 : Fd f a ns (upd H3 z (.lst [])) (c + 1) := fd3.own (fd3.free nz).1 (fd3.free nz).2
      have e4 : (upd H3 z (.lst [])) f = some (.dK kv3) := by rw [upd_ne (fd3.free nz).1]; exact e3
      generalize upd H3 z (.lst []) = H4 at k4 fd4 e4 ⊢
      have cl4 : SqL K H4 a (ns.map V.int) := .inl (.inl fd4.cl)
      have s0 : 0 ≤ n + 1 := by omega
      have s1 : n + 1 ≤ 100001 := by omega
      rw [eqv_nil_ints]
      cases hns : ns.isEmpty
      case' false =>
        have pos : 0 < ns.length := by
          cases ns with
          | nil => cases hns
          | cons _ _ => exact Nat.succ_pos _
        obtain ⟨x, hx⟩ := at_mod (ns := ns) (t := t) t0 pos
        refine iteT ⟨_, rfl, f, .ref a, rfl, dg (k := kCells) e4 four3.cells, _, rfl, .inl ⟨t, rfl, _, rfl, f, .ref a, rfl, dg (k := kCells) e4 four3.cells, a, ns.map V.int, rfl, .inl cl4, t, _, rfl, rfl, (by rw [List.length_map]; omega), a, ns.map V.int, _, .int x, rfl, rfl, cl4, hx, ?_⟩⟩
      case' true =>
        refine iteF ?_
        show Ends.nx _ (List.set _ 4 (some (V.int _))) H4
        generalize (542087 : Int) = x
      all_goals
        have head : 0 ≤ x % 1000000093 ∧ x % 1000000093 < 1000000093 := ⟨Int.emod_nonneg _ (by decide), Int.emod_lt_of_pos _ (by decide)⟩
        have mids : ∀ u : Int, 0 ≤ u % 2147483629 ∧ u % 2147483629 < 2147483629 := fun u => ⟨Int.emod_nonneg _ (by decide), Int.emod_lt_of_pos _ (by decide)⟩
        have mids2 : ∀ u : Int, 0 ≤ u % 2147483587 ∧ u % 2147483587 < 2147483587 := fun u => ⟨Int.emod_nonneg _ (by decide), Int.emod_lt_of_pos _ (by decide)⟩
        refine ⟨_, rfl, 10, 18, rfl, rfl, ⟨by decide, by decide, by decide⟩, x, _, rfl, rfl, _, rfl, ite2 (fun _ => ⟨_, rfl, _, rfl, f, .ref a, rfl, dg (k := kCells) e4 four3.cells, a, _, rfl, .inl cl4, t, _, rfl, rfl, _, rfl, ite2 (fun _ => ?_) (fun _ => ?_)⟩) (fun _ => ?_)⟩
        · refine ⟨_, rfl, _, rfl, x, m, rfl, rfl, ⟨by omega, by omega⟩, _, rfl, f, _, rfl, DPut.k (k := kHeld) e4 (small' (Nat.le_trans four3.few (by decide))), ?_⟩
          exact ⟨_, rfl, .inl ⟨x, rfl, _, rfl, x, m, rfl, rfl, m0, q _ _ (m3 x).1 (m3 x).2 (k4.trans keep_upd) (fd4.put (four3.put_held _) (by omega) (by omega) (by omega))⟩⟩
        all_goals
          refine ⟨_, rfl, .inl ⟨x, rfl, x, _, rfl, rfl, (show (0 : Int) < 1000000093 by decide), _, rfl, f, .int (n + 1), rfl, dg (k := kCount) e4 four3.count, _, n + 1, rfl, rfl, .inl ⟨by decide, by decide⟩, _, _, rfl, rfl, _, _, rfl, rfl, .inl ⟨_, rfl, _, _, rfl, rfl, (show (0 : Int) < 2147483629 by decide), ?_⟩⟩⟩
          obtain ⟨y0, y1⟩ := mids (x % 1000000093 + 80791 * (n + 1) + 631)
          refine ⟨_, rfl, _, rfl, _, _, rfl, rfl, .inl ⟨by omega, by omega⟩, _, rfl, f, .int (n + 1), rfl, dg (k := kCount) e4 four3.count, _, n + 1, rfl, rfl, .inl ⟨by decide, by decide⟩, _, _, rfl, rfl, _, _, rfl, rfl, .inl ⟨_, rfl, _, _, rfl, rfl, (show (0 : Int) < 2147483587 by decide), ?_⟩⟩
          obtain ⟨z0, z1⟩ := mids2 ((x % 1000000093 + 80791 * (n + 1) + 631) % 2147483629 * ((x % 1000000093 + 80791 * (n + 1) + 631) % 2147483629) + 6280105 * (n + 1) + 385)
          exact ⟨_, rfl, _, rfl, _, _, rfl, rfl, .inl ⟨by omega, by omega⟩, _, rfl, _, _, rfl, rfl, .inl ⟨by decide, by decide⟩, _, _, rfl, rfl, .inl ⟨_, rfl, _, _, rfl, rfl, (show (0 : Int) < 2147483563 by decide), _, _, rfl, rfl, ⟨by decide, by decide⟩, .inl ⟨_, rfl, _, rfl, _, m, rfl, rfl, m0, q _ _ (m3 _).1 (m3 _).2 k4 fd4⟩⟩⟩
end
end Kn


namespace Kn
open PySem PySem.Spec PyProof.Rows L2
/-! ### what stays -/
def TS (H H' : Hp) : Prop := (∀ b xs, H b = some (.tup xs) → H' b = some (.tup xs)) ∧ ∀ b o xs, H b = some (.frz o (.tup xs)) → H' b = some (.frz o (.tup xs))
theorem TS.refl (H : Hp) : TS H H := ⟨fun _ _ h => h, fun _ _ _ h => h⟩
theorem TS.trans {H H1 H2 : Hp} (a : TS H H1) (b : TS H1 H2) : TS H H2 := ⟨fun c x h => b.1 c x (a.1 c x h), fun c o x h => b.2 c o x (a.2 c o x h)⟩
theorem ts_same {H H' : Hp} (s : Same H H') : TS H H' := ⟨fun b xs h => s b _ h, fun b o xs h => s b _ h⟩
theorem ts_keep {f : Addr} {H H' : Hp} {kvs : List (Key × V)} (e : H f = some (.dK kvs)) (k : Keep f H H') : TS H H' :=
  ⟨fun b xs h => k b _ (ne_of h e (by intro z; cases z)) h, fun b o xs h => k b _ (ne_of h e (by intro z; cases z)) h⟩
theorem ts_fd {f a : Addr} {ns : List Int} {H H' : Hp} {c : Nat} (d : Fd f a ns H c) (k : Keep f H H') : TS H H' := by
  obtain ⟨⟨kvs, t, x, n, h1, _⟩, _, _⟩ := d
  exact ts_keep h1 k
theorem ts_lst {D : Addr} {H : Hp} {acc : List V} {o : HO} (e : H D = some (.lst acc)) : TS H (upd H D o) :=
  ⟨fun b xs h => by rw [upd_ne (ne_of h e (by intro z; cases z))]; exact h, fun b o xs h => by rw [upd_ne (ne_of h e (by intro z; cases z))]; exact h⟩
theorem tupT {K : PySem.W.Frag} {H H' : Hp} {a : Addr} {xs : List V} (s : TS H H') (h : SqT K H a xs) : SqT K H' a xs := by
  rcases h with (h | ⟨o, h⟩) | h
  · exact .inl (.inl (s.1 _ _ h))
  · exact .inl (.inr ⟨o, s.2 _ _ _ h⟩)
  · exact .inr h
theorem EntAt.ts {K : PySem.W.Frag} {H H' : Hp} {v : V} {e : Ent} (s : TS H H') : EntAt K H v e → EntAt K H' v e := fun ⟨p, q, a, b, c⟩ => ⟨p, q, a, tupT s b, tupT s c⟩
theorem EntsAt.ts {K : PySem.W.Frag} {H H' : Hp} (s : TS H H') : ∀ {vs : List V} {es : List Ent}, EntsAt K H vs es → EntsAt K H' vs es
  | _, _, .nil => .nil
  | _, _, .cons a b => .cons (a.ts s) (EntsAt.ts s b)
theorem PgAt.ts {K : PySem.W.Frag} {H H' : Hp} {v : V} {g : Pg} (s : TS H H') : PgAt K H v g → PgAt K H' v g := fun ⟨p, q, vs, a, b, c, d⟩ => ⟨p, q, vs, a, tupT s b, tupT s c, d.ts s⟩
theorem fd_ne {f a p : Addr} {ns : List Int} {H : Hp} {c : Nat} {xs : List V} (d : Fd f a ns H c) (h : H p = some (.lst xs)) : p ≠ f := by
  obtain ⟨⟨kvs, t, x, n, h1, _⟩, _, _⟩ := d
  exact ne_of h h1 (by intro z; cases z)
theorem seqK {K : PySem.W.Frag} {f a p : Addr} {ns : List Int} {H H' : Hp} {c : Nat} {xs : List V} (d : Fd f a ns H c) (k : Keep f H H') (h : SqL K H p xs) : SqL K H' p xs := by
  obtain ⟨⟨kvs, t, x, n, h1, _⟩, _, _⟩ := d
  rcases h with (h | ⟨o, h⟩) | h
  · exact .inl (.inl (k _ _ (ne_of h h1 (by intro z; cases z)) h))
  · exact .inl (.inr ⟨o, k _ _ (ne_of h h1 (by intro z; cases z)) h⟩)
  · exact .inr h

abbrev nStart : List Str := ["_law_script"]
theorem scStart : FnScope nStart ["_law_script"] (defScope (topS 40)) := ⟨rfl, rfl, rfl, by decide +kernel, rfl, by decide +kernel, by decide +kernel⟩
abbrev nAny : List Str := ["_law_feed_here", "_law_some"]
theorem scAny : FnScope nAny ["_law_feed_here", "_law_some"] (defScope (topS 42)) := ⟨rfl, rfl, rfl, by decide +kernel, rfl, by decide +kernel, by decide +kernel⟩
def spStart (K : PySem.W.Frag) : Sp := fun vs H Q _ => ∃ (s : Addr) (ns : List Int), vs = [.ref s] ∧ SqL K H s (ns.map V.int) ∧ ns.length ≤ 63 ∧
  ∀ (f a : Addr) (ms : List Int) (H' : Hp), H f = none → Same H H' → Fd f a ms H' 0 → Q (.ref f) H'
def spAny (K : PySem.W.Frag) : Sp := fun vs H Q _ => ∃ (f a p : Addr) (ns : List Int) (c : Nat) (xs : List V), vs = [.ref f, .ref p] ∧ Fd f a ns H c ∧ c < 100000 ∧ SqL K H p xs ∧ 0 < xs.length ∧ xs.length ≤ 1000 ∧
  ∀ (x : V) (H' : Hp), x ∈ xs → Keep f H H' → Fd f a ns H' (c + 1) → Q x H'
theorem ne_free {f a p : Addr} {ns : List Int} {H G : Hp} {c : Nat} (d : Fd f a ns G c) (k : Keep f H G) (n : G p = none) : H p = none := by
  cases e : H p with
  | none => rfl
  | some o =>
    by_cases hpf : p = f
    · subst hpf
      exact absurd rfl (d.free n).1
    · have := k _ _ hpf e
      rw [n] at this
      cases this
section
variable {P : Program} {w : World} {K : PySem.W.Frag} {mg : Str → Option Value} {base : Heap}
theorem ok_start {g : Addr} {fd : FuncData} (F : Fun K "_law_feed" "_law_feed" (topS 40) g fd) (mli : mg "list" = none) : FnOk P w K mg base CX0 1 g fd ["_law_script"] (spStart K) := by
  refine F.ok scStart (fun vs H Q E h => ?_) (fun cdv A outer s H vs Q E hr h => ?_)
  · obtain ⟨s, ns, rfl, _⟩ := h
    rfl
  · obtain ⟨s, ns, rfl, hS, hl, q⟩ := h
    refine ⟨_, pss_one (ps_ret (pe_disp (pps_cons pe_str (pe_callTy call_list_of (by rfl) mli (by decide +kernel) (pa_cons (pe_slice sl_list (pv 0) po_none (po_some pe_int)) pa_nil)) (pps_cons pe_str pe_int (pps_cons pe_str pe_int (pps_cons pe_str pe_int pps_nil)))) (by rfl) (by rfl) (fun z => by cases z) (by decide))), ?_⟩
    intro f nf
    refine ⟨.ref s, rfl, 63, rfl, s, _, rfl, (same_new nf).seq hS, fun b nb => ?_⟩
    refine ⟨b, _, rfl, .inl (.inl (.inl upd_same)), fun a na => ?_⟩
    have sb := same_new (o := .lst (cutV (ns.map V.int) none (some 63))) nb
    have nfb : f ≠ b := ne_of_none (upd_same (H := H) (a := f) (o := .dK [])) nb
    have na0 : upd H f (.dK []) a = none := sb.free na
    have nfa : f ≠ a := ne_of_none (upd_same (H := H) (a := f) (o := .dK [])) na0
    have na1 : H a = none := (same_new nf).free na0
    have nb1 : H b = none := (same_new nf).free nb
    refine ⟨by rw [upd_ne nfa, upd_ne nfb]; exact upd_same, [(kCells, .ref a), (kAt, .int 0), (kHeld, .int 0), (kCount, .int 0)], rfl, (show 4 ≤ 15 by decide), ?_⟩
    refine q f a ((ns.drop (HT.sIx (ns.map V.int).length 0 none)).take (HT.sIx (ns.map V.int).length (ns.map V.int).length (some 63) - HT.sIx (ns.map V.int).length 0 none)) _ nf ?_ ⟨⟨_, 0, 0, 0, upd_same, four_new a, by decide, by decide, by decide⟩, ?_, ?_⟩
    · exact putS (putS (putS (same_new nf) nb1) na1) nf
    · rw [upd_ne nfa.symm, upd_same]
      unfold cutV
      rw [List.map_take, List.map_drop]
    · rw [List.length_take, List.length_drop]
      omega
theorem ok_any {g gD : Addr} {fd fdD : FuncData} (F : Fun K "_law_any" "_law_any" (topS 42) g fd) (FD : Fun K "_law_draw" "_law_draw" (topS 41) gD fdD) (bD : Binds K fdD ["_law_feed_here", "_law_wide"] []) (mD : mg "_law_draw" = some (.ref gD)) (mi : mg "int" = none) (ml : mg "len" = none) :
    FnOk P w K mg base CX0 2 g fd ["_law_feed_here", "_law_some"] (spAny K) := by
  have GD : FnOk P w K mg base CX0 1 gD fdD ["_law_feed_here", "_law_wide"] spDraw := ok_draw FD mi ml
  refine F.ok scAny (fun vs H Q E h => ?_) (fun cdv A outer s H vs Q E hr h => ?_)
  · obtain ⟨f, a, p, ns, c, xs, rfl, _⟩ := h
    rfl
  · obtain ⟨f, a, p, ns, c, xs, rfl, fd0, hc, hL, l0, l1, q⟩ := h
    refine ⟨_, pss_one (ps_ret (pe_ix ix_list (pv 1) (pe_call GD hr (by rfl) mD FD.kp bD .nil pass0 (pa_cons (pv 0) (pa_cons (pe_callB call_len_seq (by rfl) ml PySem.boot_len (pa_cons (pv 1) pa_nil)) pa_nil))) (fun _ _ => rfl))), ?_⟩
    refine ⟨.ref p, rfl, .ref f, rfl, .ref p, rfl, p, xs, rfl, .inl hL, f, a, ns, c, _, rfl, by omega, by omega, fd0, hc, fun r H' r0 r1 k fd1 => ?_⟩
    obtain ⟨j, rfl⟩ := Int.eq_ofNat_of_zero_le r0
    have hj : j < xs.length := by omega
    exact ⟨p, xs, _, xs[j], rfl, rfl, seqK fd0 k hL, at_of rfl (List.getElem?_eq_getElem hj), q _ H' (List.getElem_mem hj) k fd1⟩
end
end Kn


/-! Kn: isinstance of data. -/
namespace Kn
open PySem PySem.Spec PyProof.Rows L2
def tyName : PyData → String
  | .none => "NoneType"
  | .bool _ => "bool"
  | .int _ => "int"
  | .str _ => "str"
  | .list _ => "list"
  | .tuple _ => "tuple"
  | .dict _ => "dict"
def intB : PyData → Bool
  | .int _ => true
  | _ => false
def boolB : PyData → Bool
  | .bool _ => true
  | _ => false
def strB : PyData → Bool
  | .str _ => true
  | _ => false
def posB : PyData → Bool
  | .int n => decide (1 ≤ n)
  | _ => false
theorem ty_of {K : PySem.W.Frag} {H : Hp} {v : V} {d : PyData} (h : Dp K H v d) : TyX K H v (.type (tyName d)) := by
  cases h with
  | non => exact .base .non
  | bl b => exact .base (.bl b)
  | int i => exact .base (.int i)
  | str x => exact .base (.str x)
  | lst h k =>
    rcases h with (h | ⟨o, h⟩) | ⟨o, its, n, h, c, _⟩
    · exact .base (.lst h)
    · exact .base (.frz h)
    · exact .kList h c
  | tup h k =>
    rcases h with (h | ⟨o, h⟩) | ⟨o, its, n, h, c, _⟩
    · exact .base (.tup h)
    · exact .fTuple h
    · exact .kTuple h c
theorem no_dict {K : PySem.W.Frag} {H : Hp} {v : V} {es : List (PyData × PyData)} (h : Dp K H v (.dict es)) : False := by cases h
section
variable {K : PySem.W.Frag} {d : PyData}
theorem kit_int : PySem.W.kitOne K (.type (tyName d)) (.type "int") = some (intB d || boolB d) := by
  cases d with
  | none => exact kit_ty (K := K) (a := "NoneType") (b := "int") (r := false) (by decide +kernel)
  | bool _ => exact kit_ty (K := K) (a := "bool") (b := "int") (r := true) (by decide +kernel)
  | int _ => exact kit_ty (K := K) (a := "int") (b := "int") (r := true) (by decide +kernel)
  | str _ => exact kit_ty (K := K) (a := "str") (b := "int") (r := false) (by decide +kernel)
  | list _ => exact kit_ty (K := K) (a := "list") (b := "int") (r := false) (by decide +kernel)
  | tuple _ => exact kit_ty (K := K) (a := "tuple") (b := "int") (r := false) (by decide +kernel)
  | dict _ => exact kit_ty (K := K) (a := "dict") (b := "int") (r := false) (by decide +kernel)
theorem kit_bool : PySem.W.kitOne K (.type (tyName d)) (.type "bool") = some (boolB d) := by
  cases d with
  | none => exact kit_ty (K := K) (a := "NoneType") (b := "bool") (r := false) (by decide +kernel)
  | bool _ => exact kit_ty (K := K) (a := "bool") (b := "bool") (r := true) (by decide +kernel)
  | int _ => exact kit_ty (K := K) (a := "int") (b := "bool") (r := false) (by decide +kernel)
  | str _ => exact kit_ty (K := K) (a := "str") (b := "bool") (r := false) (by decide +kernel)
  | list _ => exact kit_ty (K := K) (a := "list") (b := "bool") (r := false) (by decide +kernel)
  | tuple _ => exact kit_ty (K := K) (a := "tuple") (b := "bool") (r := false) (by decide +kernel)
  | dict _ => exact kit_ty (K := K) (a := "dict") (b := "bool") (r := false) (by decide +kernel)
theorem kit_str : PySem.W.kitOne K (.type (tyName d)) (.type "str") = some (strB d) := by
  cases d with
  | none => exact kit_ty (K := K) (a := "NoneType") (b := "str") (r := false) (by decide +kernel)
  | bool _ => exact kit_ty (K := K) (a := "bool") (b := "str") (r := false) (by decide +kernel)
  | int _ => exact kit_ty (K := K) (a := "int") (b := "str") (r := false) (by decide +kernel)
  | str _ => exact kit_ty (K := K) (a := "str") (b := "str") (r := true) (by decide +kernel)
  | list _ => exact kit_ty (K := K) (a := "list") (b := "str") (r := false) (by decide +kernel)
  | tuple _ => exact kit_ty (K := K) (a := "tuple") (b := "str") (r := false) (by decide +kernel)
  | dict _ => exact kit_ty (K := K) (a := "dict") (b := "str") (r := false) (by decide +kernel)
end
end Kn


/-! Kn: written data, as a whole. -/
namespace Kn
open PySem PySem.Spec PyProof.Rows L2
theorem sameDp {K : PySem.W.Frag} {H H' : Hp} (s : Same H H') {a : Addr} {xs : List V} (h : SqT K H a xs) : SqT K H' a xs := by
  rcases h with (h | ⟨o, h⟩) | h
  · exact .inl (.inl (s _ _ h))
  · exact .inl (.inr ⟨o, s _ _ h⟩)
  · exact .inr h
mutual
theorem dKeep {K : PySem.W.Frag} {H H' : Hp} (s : Same H H') : ∀ {v : V} {d : PyData}, Dp K H v d → Dp K H' v d
  | _, _, .non => .non
  | _, _, .bl b => .bl b
  | _, _, .int i => .int i
  | _, _, .str x => .str x
  | _, _, .lst h k => .lst (s.seq h) (dsKeep s k)
  | _, _, .tup h k => .tup (sameDp s h) (dsKeep s k)
theorem dsKeep {K : PySem.W.Frag} {H H' : Hp} (s : Same H H') : ∀ {vs : List V} {ds : List PyData}, DpAll K H vs ds → DpAll K H' vs ds
  | _, _, .nil => .nil
  | _, _, .cons a b => .cons (dKeep s a) (dsKeep s b)
end
theorem dsLen {K : PySem.W.Frag} {H : Hp} : ∀ {xs : List V} {ds : List PyData}, DpAll K H xs ds → xs.length = ds.length
  | _, _, .nil => rfl
  | _, _, .cons _ b => congrArg Nat.succ (dsLen b)
theorem dsApp {K : PySem.W.Frag} {H : Hp} : ∀ {xs ys : List V} {ds es : List PyData}, DpAll K H xs ds → DpAll K H ys es → DpAll K H (xs ++ ys) (ds ++ es)
  | _, _, _, _, .nil, h => h
  | _, _, _, _, .cons a b, h => .cons a (dsApp b h)
theorem dsAt {K : PySem.W.Frag} {H : Hp} : ∀ {xs : List V} {ds : List PyData}, DpAll K H xs ds → ∀ (i : Nat) (x : V), xs[i]? = some x → ∃ d, ds[i]? = some d ∧ Dp K H x d
  | _, _, .nil, i, x, h => by simp at h
  | _, _, .cons (d := d) a b, 0, x, h => by
    simp at h
    subst h
    exact ⟨d, rfl, a⟩
  | _, _, .cons a b, i + 1, x, h => dsAt b i x (by simpa using h)
theorem dsDrop {K : PySem.W.Frag} {H : Hp} : ∀ (n : Nat) {xs : List V} {ds : List PyData}, DpAll K H xs ds → DpAll K H (xs.drop n) (ds.drop n)
  | 0, _, _, h => h
  | n + 1, _, _, .nil => .nil
  | n + 1, _, _, .cons _ b => dsDrop n b
theorem dsTake {K : PySem.W.Frag} {H : Hp} : ∀ (n : Nat) {xs : List V} {ds : List PyData}, DpAll K H xs ds → DpAll K H (xs.take n) (ds.take n)
  | 0, _, _, _ => .nil
  | n + 1, _, _, .nil => .nil
  | n + 1, _, _, .cons a b => .cons a (dsTake n b)
theorem dsRev {K : PySem.W.Frag} {H : Hp} : ∀ {xs : List V} {ds : List PyData}, DpAll K H xs ds → DpAll K H xs.reverse ds.reverse
  | _, _, .nil => .nil
  | _, _, .cons a b => by
    rw [List.reverse_cons, List.reverse_cons]
    exact dsApp (dsRev b) (.cons a .nil)
/-- an expression that makes this data, and changes nothing -/
def DE (K : PySem.W.Frag) (t : TE) (d : PyData) : Prop := ∀ (σ : L2.St) (H : Hp) (Q : VK), (∀ (v : V) (H' : Hp), Same H H' → Dp K H' v d → Q v H') → t σ H Q
def DA (K : PySem.W.Frag) (t : TA) (ds : List PyData) : Prop := ∀ (σ : L2.St) (H : Hp) (Q : List V → Hp → Prop), (∀ (vs : List V) (H' : Hp), Same H H' → DpAll K H' vs ds → Q vs H') → t σ H Q
/-- a new list of this data -/
def DL (K : PySem.W.Frag) (t : TE) (ds : List PyData) : Prop := ∀ (σ : L2.St) (H : Hp) (Q : VK), (∀ (l : Addr) (vs : List V) (H' : Hp), Same H H' → H l = none → H' l = some (.lst vs) → DpAll K H' vs ds → Q (.ref l) H') → t σ H Q
section
variable {K : PySem.W.Frag} {t u : TE} {ta : TA} {d : PyData} {ds es : List PyData}
theorem de_non : DE K (tC .non) .none := fun _ H _ q => q _ H (Same.refl H) .non
theorem de_bl {b : Bool} : DE K (tC (.bl b)) (.bool b) := fun _ H _ q => q _ H (Same.refl H) (.bl b)
theorem de_int {i : Int} : DE K (tC (.int i)) (.int i) := fun _ H _ q => q _ H (Same.refl H) (.int i)
theorem de_str {x : Str} : DE K (tC (.str x)) (.str x) := fun _ H _ q => q _ H (Same.refl H) (.str x)
theorem de_neg {i : Int} : DE K (tUn (rU fun i => .int (-i)) (tC (.int i))) (.int (-i)) := fun _ H _ q => ⟨i, rfl, q _ H (Same.refl H) (.int _)⟩
theorem de_big {i j : Int} (h : CPow i j := by exact ⟨by decide, by decide, by decide⟩) : DE K (tOp (rI CPow fun i j => .int (i ^ j.toNat)) (tC (.int i)) (tC (.int j))) (.int (i ^ j.toNat)) := fun _ H _ q => ⟨i, j, rfl, rfl, h, q _ H (Same.refl H) (.int _)⟩
theorem da_nil : DA K tNil [] := fun _ H _ q => q _ H (Same.refl H) .nil
theorem da_cons (h : DE K t d) (k : DA K ta ds) : DA K (tCons t ta) (d :: ds) := fun σ H Q q => h σ H _ fun v H1 s1 d1 => k σ H1 _ fun vs H2 s2 d2 => q _ H2 (s1.trans s2) (.cons (dKeep s2 d1) d2)
theorem de_tup (h : DA K ta ds) (few : ds.length ≤ 1000) : DE K (tTup ta) (.tuple ds) := fun σ H Q q => h σ H _ fun vs H1 s1 d1 => by
  refine ⟨by rw [dsLen d1]; exact Nat.le_trans few (by decide), fun p np => ?_⟩
  have s2 := same_new (o := .tup vs) np
  exact q _ _ (s1.trans s2) (.tup (.inl (.inl upd_same)) (dsKeep s2 d1))
theorem dl_lst (h : DA K ta ds) (few : ds.length ≤ 1000) : DL K (tLst ta) ds := fun σ H Q q => h σ H _ fun vs H1 s1 d1 => by
  refine ⟨by rw [dsLen d1]; exact Nat.le_trans few (by decide), fun p np => ?_⟩
  have s2 := same_new (o := .lst vs) np
  exact q p vs _ (s1.trans s2) (s1.free np) upd_same (dsKeep s2 d1)
theorem de_lst (h : DA K ta ds) (few : ds.length ≤ 1000) : DE K (tLst ta) (.list ds) := fun σ H Q q => dl_lst h few σ H Q fun l vs H' s _ e d => q _ H' s (.lst (.inl (.inl e)) d)
theorem dl_cat (h : DL K t ds) (k : DL K u es) (few : ds.length + es.length ≤ 1000) : DL K (tOp rCat t u) (ds ++ es) := fun σ H Q q => h σ H _ fun l vs H1 s1 n1 e1 d1 => k σ H1 _ fun r ws H2 s2 n2 e2 d2 => by
  refine ⟨l, r, vs, ws, rfl, rfl, s2 _ _ e1, e2, by rw [dsLen d1, dsLen d2]; exact Nat.le_trans few (by decide), fun p np => ?_⟩
  have s3 := same_new (o := .lst (vs ++ ws)) np
  exact q p _ _ ((s1.trans s2).trans s3) ((s1.trans s2).free np) upd_same (dsKeep s3 (dsApp (dsKeep s2 d1) d2))
theorem dl_grow {l : Addr} {vs : List V} {H0 : Hp} {Q : VK} {σ : L2.St} (e : H0 l = some (.lst vs)) (d1 : DpAll K H0 vs ds) (ht : ∀ R : VK, R (.ref l) H0 → t σ H0 R) (k : DL K u es) (few : ds.length + es.length ≤ 1000)
    (q : ∀ (p : Addr) (ws : List V) (H' : Hp), Same H0 H' → H0 p = none → H' p = some (.lst ws) → DpAll K H' ws (ds ++ es) → Q (.ref p) H') : tOp rCat t u σ H0 Q := ht _ (k σ H0 _ fun r ws H2 s2 n2 e2 d2 => by
  refine ⟨l, r, vs, ws, rfl, rfl, s2 _ _ e, e2, by rw [dsLen d1, dsLen d2]; exact Nat.le_trans few (by decide), fun p np => ?_⟩
  have s3 := same_new (o := .lst (vs ++ ws)) np
  exact q p _ _ (s2.trans s3) (s2.free np) upd_same (dsKeep s3 (dsApp (dsKeep s2 d1) d2)))
end
/-! ### isinstance of a tuple -/
def tupB : PyData → Bool
  | .tuple _ => true
  | _ => false
theorem kit_tup {K : PySem.W.Frag} {d : PyData} : PySem.W.kitOne K (.type (tyName d)) (.type "tuple") = some (tupB d) := by
  cases d with
  | none => exact kit_ty (K := K) (a := "NoneType") (b := "tuple") (r := false) (by decide +kernel)
  | bool _ => exact kit_ty (K := K) (a := "bool") (b := "tuple") (r := false) (by decide +kernel)
  | int _ => exact kit_ty (K := K) (a := "int") (b := "tuple") (r := false) (by decide +kernel)
  | str _ => exact kit_ty (K := K) (a := "str") (b := "tuple") (r := false) (by decide +kernel)
  | list _ => exact kit_ty (K := K) (a := "list") (b := "tuple") (r := false) (by decide +kernel)
  | tuple _ => exact kit_ty (K := K) (a := "tuple") (b := "tuple") (r := true) (by decide +kernel)
  | dict _ => exact kit_ty (K := K) (a := "dict") (b := "tuple") (r := false) (by decide +kernel)
end Kn


/-! Kn: how large data is. -/
namespace Kn
open PySem PySem.Spec PyProof.Rows L2
mutual
def goodD : PyData → Bool
  | .none => true
  | .bool _ => true
  | .int i => decide (i.natAbs < 10 ^ 60)
  | .str x => x.cps.toList.all fun c => decide (c < 128)
  | .list ds => goodDs ds
  | .tuple ds => goodDs ds
  | .dict _ => false
def goodDs : List PyData → Bool
  | [] => true
  | d :: r => goodD d && goodDs r
end
mutual
def nodesD : PyData → Nat
  | .none => 1
  | .bool _ => 1
  | .int _ => 1
  | .str x => 1 + x.length
  | .list ds => 1 + nodesDs ds
  | .tuple ds => 1 + nodesDs ds
  | .dict _ => 1
def nodesDs : List PyData → Nat
  | [] => 0
  | d :: r => nodesD d + nodesDs r
end
theorem good_app : ∀ a b : List PyData, goodDs (a ++ b) = (goodDs a && goodDs b)
  | [], b => by rw [List.nil_append]; show _ = (true && goodDs b); rw [Bool.true_and]
  | d :: r, b => by
    show (goodD d && goodDs (r ++ b)) = (goodD d && goodDs r && goodDs b)
    rw [good_app r b, Bool.and_assoc]
theorem nodes_app : ∀ a b : List PyData, nodesDs (a ++ b) = nodesDs a + nodesDs b
  | [], b => by rw [List.nil_append]; show _ = 0 + nodesDs b; rw [Nat.zero_add]
  | d :: r, b => by
    show nodesD d + nodesDs (r ++ b) = nodesD d + nodesDs r + nodesDs b
    rw [nodes_app r b, Nat.add_assoc]
theorem depth_app : ∀ a b : List PyData, PyData.depthAll (a ++ b) = max (PyData.depthAll a) (PyData.depthAll b)
  | [], b => by rw [List.nil_append]; show _ = max 0 (PyData.depthAll b); rw [Nat.zero_max]
  | d :: r, b => by
    show max d.depth (PyData.depthAll (r ++ b)) = max (max d.depth (PyData.depthAll r)) (PyData.depthAll b)
    rw [depth_app r b, Nat.max_assoc]
theorem nodes_len : ∀ ds : List PyData, ds.length ≤ nodesDs ds
  | [] => Nat.le_refl _
  | d :: r => by
    have h := nodes_len r
    have p : 1 ≤ nodesD d := by
      cases d <;> first | exact Nat.le_refl 1 | exact Nat.le_add_right 1 _
    show r.length + 1 ≤ nodesD d + nodesDs r
    omega
/-- few, good and flat enough -/
structure Tm (n k : Nat) (ds : List PyData) : Prop where
  g : goodDs ds = true
  n : nodesDs ds ≤ n
  d : PyData.depthAll ds ≤ k
theorem Tm.mono {n k n' k' : Nat} {ds : List PyData} (h : Tm n k ds) (a : n ≤ n') (b : k ≤ k') : Tm n' k' ds := ⟨h.g, Nat.le_trans h.n a, Nat.le_trans h.d b⟩
theorem Tm.app {n m k : Nat} {a b : List PyData} (h : Tm n k a) (j : Tm m k b) : Tm (n + m) k (a ++ b) :=
  ⟨by rw [good_app, h.g, j.g]; rfl, by rw [nodes_app]; exact Nat.add_le_add h.n j.n, by rw [depth_app]; exact Nat.max_le.mpr ⟨h.d, j.d⟩⟩
theorem Tm.nil (n k : Nat) : Tm n k [] := ⟨rfl, Nat.zero_le _, Nat.zero_le _⟩
theorem Tm.split {n k : Nat} {a b : List PyData} (h : Tm n k (a ++ b)) : ∃ x y, x + y ≤ n ∧ Tm x k a ∧ Tm y k b := by
  have g := h.g
  rw [good_app] at g
  obtain ⟨g1, g2⟩ := Bool.and_eq_true_iff.mp g
  have nn := h.n
  rw [nodes_app] at nn
  have dd := h.d
  rw [depth_app] at dd
  obtain ⟨d1, d2⟩ := Nat.max_le.mp dd
  exact ⟨_, _, nn, ⟨g1, Nat.le_refl _, d1⟩, ⟨g2, Nat.le_refl _, d2⟩⟩
theorem Tm.cut {n k : Nat} {ds : List PyData} (h : Tm n k ds) (i : Nat) : ∃ x y, x + y ≤ n ∧ Tm x k (ds.take i) ∧ Tm y k (ds.drop i) := Tm.split (by rw [List.take_append_drop]; exact h)
theorem Tm.take {n k : Nat} {ds : List PyData} (h : Tm n k ds) (i : Nat) : Tm n k (ds.take i) := by
  obtain ⟨x, y, l, a, _⟩ := h.cut i
  exact a.mono (by omega) (Nat.le_refl _)
theorem Tm.drop {n k : Nat} {ds : List PyData} (h : Tm n k ds) (i : Nat) : Tm n k (ds.drop i) := by
  obtain ⟨x, y, l, _, b⟩ := h.cut i
  exact b.mono (by omega) (Nat.le_refl _)
theorem Tm.rev {n k : Nat} : ∀ {ds : List PyData}, Tm n k ds → Tm n k ds.reverse := by
  have all : ∀ ds : List PyData, goodDs ds.reverse = goodDs ds ∧ nodesDs ds.reverse = nodesDs ds ∧ PyData.depthAll ds.reverse = PyData.depthAll ds := by
    intro ds
    induction ds with
    | nil => exact ⟨rfl, rfl, rfl⟩
    | cons d r ih =>
      obtain ⟨a, b, c⟩ := ih
      rw [List.reverse_cons, good_app, nodes_app, depth_app, a, b, c]
      refine ⟨?_, ?_, ?_⟩
      · show (goodDs r && (goodD d && true)) = (goodD d && goodDs r)
        rw [Bool.and_true, Bool.and_comm]
      · show nodesDs r + (nodesD d + 0) = nodesD d + nodesDs r
        omega
      · show max (PyData.depthAll r) (max d.depth 0) = max d.depth (PyData.depthAll r)
        rw [Nat.max_zero, Nat.max_comm]
  intro ds h
  obtain ⟨a, b, c⟩ := all ds
  exact ⟨by rw [a]; exact h.g, by rw [b]; exact h.n, by rw [c]; exact h.d⟩
theorem Tm.one {n k : Nat} {d : PyData} (g : goodD d = true) (hn : nodesD d ≤ n) (hk : d.depth ≤ k) : Tm n k [d] := by
  refine ⟨?_, ?_, ?_⟩
  · show (goodD d && true) = true
    rw [g]
    rfl
  · show nodesD d + 0 ≤ n
    omega
  · show max d.depth 0 ≤ k
    omega
theorem Tm.get {n k : Nat} {ds : List PyData} (h : Tm n k ds) {i : Nat} {d : PyData} (e : ds[i]? = some d) : goodD d = true ∧ nodesD d ≤ n ∧ d.depth ≤ k := by
  have q := (h.drop i).take 1
  have e2 : (ds.drop i).take 1 = [d] := by
    rw [List.take_one, List.head?_drop, e]
    rfl
  rw [e2] at q
  obtain ⟨g, b, c⟩ := q
  refine ⟨?_, ?_, ?_⟩
  · have g : (goodD d && true) = true := g
    rw [Bool.and_true] at g
    exact g
  · have b : nodesD d + 0 ≤ n := b
    omega
  · have c : max d.depth 0 ≤ k := c
    omega
end Kn


/-! Kn: what good data shows, and that it can be compared. -/
namespace Kn
open PySem PySem.Spec PyProof.Rows L2
theorem ascii_fit {x : Str} (h : (x.cps.toList.all fun c => decide (c < 128)) = true) : Fit x.length x := ⟨Nat.le_refl _, fun c hc => Nat.lt_trans (of_decide_eq_true (List.all_eq_true.mp h c hc)) (by decide)⟩
theorem sum_map {ds : List Str} : (ds.map (·.length)).sum = (ds.map (·.length)).sum := rfl
mutual
theorem good_shown : ∀ d : PyData, goodD d = true → d.showable = true ∧ d.hasDict = false ∧ d.shown.length + 2 ≤ 80 * nodesD d
  | .none, _ => ⟨rfl, rfl, by decide +kernel⟩
  | .bool b, _ => by
    refine ⟨rfl, rfl, ?_⟩
    cases b <;> decide +kernel
  | .int i, h => by
    have h : i.natAbs < 10 ^ 60 := of_decide_eq_true h
    refine ⟨by show decide _ = true; exact decide_eq_true (fee_log h), rfl, ?_⟩
    have q : (feeT i).length ≤ 61 := (feeT_fit h).1
    show (feeT i).length + 2 ≤ 80 * 1
    omega
  | .str x, h => by
    refine ⟨rfl, rfl, ?_⟩
    have q := StrLaws.reprText_len x (ascii_fit h).2
    show (reprText x).length + 2 ≤ 80 * (1 + x.length)
    omega
  | .list ds, h => by
    obtain ⟨a, b, c, e⟩ := good_all ds h
    refine ⟨a, b, ?_⟩
    have q := listText_len_le (PyData.shownAll ds)
    rw [e] at q
    show (listText (PyData.shownAll ds)).length + 2 ≤ 80 * (1 + nodesDs ds)
    omega
  | .tuple ds, h => by
    obtain ⟨a, b, c, e⟩ := good_all ds h
    refine ⟨a, b, ?_⟩
    have q := tupleText_len_le (PyData.shownAll ds)
    rw [e] at q
    show (tupleText (PyData.shownAll ds)).length + 2 ≤ 80 * (1 + nodesDs ds)
    omega
  | .dict _, h => by cases h
theorem good_all : ∀ ds : List PyData, goodDs ds = true → PyData.showableAll ds = true ∧ PyData.hasDictAll ds = false ∧ ((PyData.shownAll ds).map (·.length)).sum + 2 * ds.length ≤ 80 * nodesDs ds ∧ (PyData.shownAll ds).length = ds.length
  | [], _ => ⟨rfl, rfl, Nat.zero_le _, rfl⟩
  | d :: r, h => by
    have h : (goodD d && goodDs r) = true := h
    obtain ⟨h1, h2⟩ := Bool.and_eq_true_iff.mp h
    obtain ⟨a1, b1, c1⟩ := good_shown d h1
    obtain ⟨a2, b2, c2, e2⟩ := good_all r h2
    refine ⟨?_, ?_, ?_, ?_⟩
    · show (d.showable && PyData.showableAll r) = true
      rw [a1, a2]
      rfl
    · show (d.hasDict || PyData.hasDictAll r) = false
      rw [b1, b2]
      rfl
    · show ((d.shown :: PyData.shownAll r).map (·.length)).sum + 2 * (r.length + 1) ≤ 80 * (nodesD d + nodesDs r)
      rw [List.map_cons, List.sum_cons]
      omega
    · show (d.shown :: PyData.shownAll r).length = r.length + 1
      rw [List.length_cons, e2]
end
mutual
theorem good_lay : ∀ d : PyData, goodD d = true → d.canLay0 = true
  | .none, _ => rfl
  | .bool _, _ => rfl
  | .int _, _ => rfl
  | .str x, h => by
    show x.cps.all (· < 0x110000) = true
    rw [← Array.all_toList]
    exact List.all_eq_true.mpr fun c hc => decide_eq_true (Nat.lt_trans (of_decide_eq_true (List.all_eq_true.mp h c hc)) (by decide))
  | .list ds, h => good_lays ds h
  | .tuple ds, h => good_lays ds h
  | .dict _, h => by cases h
theorem good_lays : ∀ ds : List PyData, goodDs ds = true → PyData.canLayAll0 ds = true
  | [], _ => rfl
  | d :: r, h => by
    have h : (goodD d && goodDs r) = true := h
    obtain ⟨h1, h2⟩ := Bool.and_eq_true_iff.mp h
    show (d.canLay0 && PyData.canLayAll0 r) = true
    rw [good_lay d h1, good_lays r h2]
    rfl
end
theorem good_shaped {d : PyData} (h : goodD d = true) (l : d.depth ≤ 64) : SeqAt.shaped d = true := by
  unfold SeqAt.shaped
  rw [good_lay d h, decide_eq_true l]
  rfl
end Kn


/-! Kn: names, tables, kinds among any data. -/
namespace Kn
open PySem PySem.Spec PyProof.Rows L2
def lowB (x : Str) : Bool := x.cps.toList.all fun c => decide (97 ≤ c ∧ c ≤ 122)
def nameB : PyData → Bool
  | .str x => decide (1 ≤ x.length) && decide (x.length ≤ 8) && lowB x
  | _ => false
def ltD : PyData → PyData → Bool
  | .str x, .str y => decide (x.cps.toList < y.cps.toList)
  | _, _ => false
/-- the k-th is a name, and behind the one ahead of it -/
def okAt (ds : List PyData) (k : Nat) : Bool := nameB (ds.getD k .none) && (k == 0 || ltD (ds.getD (k - 1) .none) (ds.getD k .none))
def rowB : PyData → Bool
  | .tuple ds => (List.range ds.length).all (okAt ds)
  | _ => false
def kindB : PyData → Bool
  | .tuple [n, f, h, t] => nameB n && posB f && boolB h && rowB t
  | _ => false
def part (d : PyData) (k : Nat) : PyData := match d with
  | .tuple ds => ds.getD k .none
  | _ => .none
/-- the k-th is a kind, and behind the one ahead of it -/
def kindAt (ds : List PyData) (k : Nat) : Bool := kindB (ds.getD k .none) && (k == 0 || ltD (part (ds.getD (k - 1) .none) 0) (part (ds.getD k .none) 0))
theorem sign_facts : ∀ c : Nat, c < 128 → (Unicode.isAlpha c = (Unicode.isLower c || Unicode.isUpper c)) ∧ Unicode.isTitle c = false ∧ Unicode.isLower c = decide (97 ≤ c ∧ c ≤ 122) ∧ (Unicode.isLower c = true → Unicode.isUpper c = false) := by
  have all : ((List.range 128).all fun c => decide (Unicode.isAlpha c = (Unicode.isLower c || Unicode.isUpper c)) && decide (Unicode.isTitle c = false) && decide (Unicode.isLower c = decide (97 ≤ c ∧ c ≤ 122)) && (!Unicode.isLower c || !Unicode.isUpper c)) = true := by decide +kernel
  intro c hc
  have q := List.all_eq_true.mp all c (List.mem_range.mpr hc)
  obtain ⟨q, q4⟩ := Bool.and_eq_true_iff.mp q
  obtain ⟨q, q3⟩ := Bool.and_eq_true_iff.mp q
  obtain ⟨q1, q2⟩ := Bool.and_eq_true_iff.mp q
  refine ⟨of_decide_eq_true q1, of_decide_eq_true q2, of_decide_eq_true q3, fun z => ?_⟩
  rw [z] at q4
  simpa using q4
theorem low_is {x : Str} (h : (x.cps.toList.all fun c => decide (c < 128)) = true) : (Txt.isalpha x && Txt.islower x) = (decide (1 ≤ x.length) && lowB x) := by
  have e1 : Txt.isalpha x = (decide (x.length > 0) && x.cps.toList.all Unicode.isAlpha) := by
    show (decide (x.length > 0) && x.cps.all Unicode.isAlpha) = _
    rw [← Array.all_toList]
  have e2 : Txt.islower x = (x.cps.toList.any Unicode.isLower && !x.cps.toList.any fun c => Unicode.isUpper c || Unicode.isTitle c) := by
    show (x.cps.any Unicode.isLower && !x.cps.any fun c => Unicode.isUpper c || Unicode.isTitle c) = _
    rw [← Array.any_toList, ← Array.any_toList]
  have el : x.length = x.cps.toList.length := by
    show x.cps.size = _
    rw [← Array.length_toList]
  rw [e1, e2, el]
  unfold lowB
  generalize x.cps.toList = l at h
  have all : ∀ l : List Nat, (l.all fun c => decide (c < 128)) = true → (l.all Unicode.isAlpha && !l.any fun c => Unicode.isUpper c || Unicode.isTitle c) = l.all fun c => decide (97 ≤ c ∧ c ≤ 122) := by
    intro l
    induction l with
    | nil => exact fun _ => rfl
    | cons c r ih =>
      intro h
      obtain ⟨h1, h2⟩ := Bool.and_eq_true_iff.mp (show (decide (c < 128) && r.all fun c => decide (c < 128)) = true from h)
      obtain ⟨f1, f2, f3, f4⟩ := sign_facts c (of_decide_eq_true h1)
      have ih := ih h2
      show ((Unicode.isAlpha c && r.all Unicode.isAlpha) && !((Unicode.isUpper c || Unicode.isTitle c) || r.any fun c => Unicode.isUpper c || Unicode.isTitle c)) = (decide (97 ≤ c ∧ c ≤ 122) && r.all fun c => decide (97 ≤ c ∧ c ≤ 122))
      rw [← ih, ← f3, f1, f2]
      revert f4
      cases Unicode.isLower c <;> cases Unicode.isUpper c <;> cases r.all Unicode.isAlpha <;> cases (r.any fun c => Unicode.isUpper c || Unicode.isTitle c) <;> simp
  cases l with
  | nil => rfl
  | cons c r =>
    have q := all (c :: r) h
    rw [← q]
    have pos : decide ((c :: r).length > 0) = true := decide_eq_true (Nat.succ_pos _)
    have pos2 : decide (1 ≤ (c :: r).length) = true := decide_eq_true (Nat.succ_pos _)
    rw [pos, pos2, Bool.true_and, Bool.true_and]
    obtain ⟨h1, h2⟩ := Bool.and_eq_true_iff.mp (show (decide (c < 128) && r.all fun c => decide (c < 128)) = true from h)
    obtain ⟨f1, f2, f3, f4⟩ := sign_facts c (of_decide_eq_true h1)
    show ((Unicode.isAlpha c && r.all Unicode.isAlpha) && ((Unicode.isLower c || r.any Unicode.isLower) && !((Unicode.isUpper c || Unicode.isTitle c) || r.any fun c => Unicode.isUpper c || Unicode.isTitle c))) = ((Unicode.isAlpha c && r.all Unicode.isAlpha) && !((Unicode.isUpper c || Unicode.isTitle c) || r.any fun c => Unicode.isUpper c || Unicode.isTitle c))
    rw [f1, f2]
    cases Unicode.isLower c <;> cases Unicode.isUpper c <;> cases r.all Unicode.isAlpha <;> cases (r.any fun c => Unicode.isUpper c || Unicode.isTitle c) <;> simp
end Kn


/-! Kn: a comprehension with a filter over a tuple; a text among texts. -/
namespace Kn
open PySem PySem.Spec PyProof.Rows L2
theorem lc_pickT {K : PySem.W.Frag} {a : Addr} {xs : List V} {slot : Nat} {te tl : TE} {tt : TT} {vs : List Nat} {σ : L2.St} {H : Hp} {Q : VK} (ys : List (Bool × V)) (hl : ys.length = xs.length) (hs : xs.length ≤ 1000) (hT : SqT K H a xs)
    (htl : ∀ R : VK, R (.ref a) H → tl σ H R) (w : ∀ v, wipe ((wipe σ vs).set slot (some v)) vs = wipe σ vs)
    (test : ∀ (i : Nat) (x : V) (b : Bool) (y : V) (G : Hp) (R : Bool → Hp → Prop), xs[i]? = some x → ys[i]? = some (b, y) → Same H G → R b G → tt ((wipe σ vs).set slot (some x)) G R)
    (turn : ∀ (i : Nat) (x : V) (b : Bool) (y : V) (G : Hp) (R : VK), xs[i]? = some x → ys[i]? = some (b, y) → Same H G → R y G → te ((wipe σ vs).set slot (some x)) G R)
    (done : ∀ (D : Addr) (G : Hp), H D = none → Same H G → G D = some (.lst ((ys.filter (·.1)).map (·.2))) → Q (.ref D) G) : tLc (iTup K tl) (gName slot) tt te vs σ H Q := by
  refine htl _ ⟨a, rfl, ⟨xs, hT⟩, fun D nD => ?_⟩
  refine lc_tup (K := K) (a := a) (xs := xs) (fun i G => Same H G ∧ G D = some (.lst (((ys.take i).filter (·.1)).map (·.2)))) ⟨same_new nD, upd_same⟩ (fun i G _ h => tupS h.1 hT) ?_ ?_
  · rintro i x G hx ⟨sm, hD⟩
    have hi : i < xs.length := (List.getElem?_eq_some_iff.mp hx).1
    have hy : ys[i]? = some (ys[i]'(by omega)) := List.getElem?_eq_getElem (by omega)
    have et : ys.take (i + 1) = ys.take i ++ [ys[i]'(by omega)] := by
      rw [List.take_add_one, hy]
      rfl
    refine ⟨w x, ?_⟩
    generalize ys[i]'(by omega) = by_ at hy et
    obtain ⟨b, y⟩ := by_
    refine test i x b y G _ hx hy sm ?_
    cases b
    · refine iteF ⟨sm, ?_⟩
      rw [hD, et, List.filter_append]
      simp
    · refine iteT (turn i x true y G _ hx hy sm ⟨_, hD, ?_, putS sm nD, ?_⟩)
      · rw [List.length_map]
        have := List.length_filter_le (·.1) (ys.take i)
        rw [List.length_take] at this
        exact small' (by omega)
      · rw [upd_same, et, List.filter_append, List.map_append]
        rfl
  · rintro G ⟨sm, hD⟩
    refine done D G nD sm ?_
    rw [hD, List.take_of_length_le (by omega)]
theorem inV_strs (n : Str) : ∀ t : List Str, inV (.str n) (t.map V.str) = decide (n ∈ t)
  | [] => by
    symm
    simp [inV]
  | a :: r => by
    have ih := inV_strs n r
    show ((a == n) || inV (.str n) (r.map V.str)) = _
    rw [ih]
    by_cases h : a = n
    · simp [h]
    · have h2 : ¬ n = a := fun z => h z.symm
      simp [h, h2]
theorem flat_strs (t : List Str) : (t.map V.str).all flatV = true := by
  simp [flatV]
end Kn


/-! Kn: a filter over a tuple whose test may make objects; rows of names. -/
namespace Kn
open PySem PySem.Spec PyProof.Rows L2
theorem lc_filtT {K : PySem.W.Frag} {a : Addr} {xs : List V} {slot : Nat} {te tl : TE} {tt : TT} {vs : List Nat} {σ : L2.St} {H : Hp} {Q : VK} (f : PyData → Bool) (ds : List PyData) (hT : SqT K H a xs) (hd : DpAll K H xs ds) (few : xs.length ≤ 1000)
    (htl : ∀ R : VK, R (.ref a) H → tl σ H R) (w : ∀ v, wipe ((wipe σ vs).set slot (some v)) vs = wipe σ vs)
    (test : ∀ (i : Nat) (x : V) (d : PyData) (G : Hp) (R : Bool → Hp → Prop), xs[i]? = some x → ds[i]? = some d → Dp K G x d → Same H G → (∀ G', Same G G' → R (f d) G') → tt ((wipe σ vs).set slot (some x)) G R)
    (turn : ∀ (x : V) (G : Hp) (R : VK), R x G → te ((wipe σ vs).set slot (some x)) G R)
    (done : ∀ (D : Addr) (ws : List V) (G : Hp), H D = none → Same H G → G D = some (.lst ws) → DpAll K G ws (ds.filter f) → Q (.ref D) G) : tLc (iTup K tl) (gName slot) tt te vs σ H Q := by
  refine htl _ ⟨a, rfl, ⟨xs, hT⟩, fun D nD => ?_⟩
  refine lc_tup (K := K) (a := a) (xs := xs) (fun i G => Same H G ∧ ∃ ws, G D = some (.lst ws) ∧ DpAll K H ws ((ds.take i).filter f)) ⟨same_new nD, [], upd_same, .nil⟩ (fun i G _ h => tupS h.1 hT) ?_ ?_
  · rintro i x G hx ⟨sm, ws, eD, hw⟩
    have hi : i < xs.length := (List.getElem?_eq_some_iff.mp hx).1
    obtain ⟨d, hdi, dp⟩ := dsAt hd i x hx
    have et : (ds.take (i + 1)).filter f = (ds.take i).filter f ++ (if f d = true then [d] else []) := by
      rw [List.take_add_one, hdi, List.filter_append]
      show _ ++ [d].filter f = _
      rw [List.filter_cons]
      cases f d <;> rfl
    refine ⟨w x, ?_⟩
    refine test i x d G _ hx hdi (dKeep sm dp) sm fun G' s' => ?_
    cases z : f d
    · refine iteF ⟨sm.trans s', ws, s' _ _ eD, ?_⟩
      rw [et, z]
      simpa using hw
    · refine iteT (turn x G' _ ⟨ws, s' _ _ eD, ?_, putS (sm.trans s') nD, ws ++ [x], upd_same, ?_⟩)
      · have h1 := dsLen hw
        have h2 := List.length_filter_le f (ds.take i)
        have h3 := dsLen hd
        rw [List.length_take] at h2
        exact small' (by omega)
      · rw [et, z]
        exact dsApp hw (.cons dp .nil)
  · rintro G ⟨sm, ws, eD, hw⟩
    rw [List.take_of_length_le (by rw [dsLen hd]; exact Nat.le_refl _)] at hw
    exact done D ws G nD sm eD (dsKeep sm hw)
theorem eqv_nil2 (ds : List PyData) : PyData.eqv (.list ds) (.list []) = ds.isEmpty := by
  cases ds with
  | nil => rfl
  | cons d r => rfl
theorem filter_none {α : Type} (f : α → Bool) : ∀ ds : List α, (ds.filter fun d => !f d).isEmpty = ds.all f
  | [] => rfl
  | d :: r => by
    rw [List.filter_cons, List.all_cons]
    cases f d
    · rfl
    · exact filter_none f r
theorem goodFilter (b : PyData → Bool) : ∀ {ds : List PyData}, goodDs ds = true → goodDs (ds.filter b) = true
  | [], _ => rfl
  | d :: r, h => by
    obtain ⟨h1, h2⟩ := Bool.and_eq_true_iff.mp (show (goodD d && goodDs r) = true from h)
    have ih := goodFilter b h2
    rw [List.filter_cons]
    cases b d
    · exact ih
    · show (goodD d && goodDs (r.filter b)) = true
      rw [h1, ih]
      rfl
theorem depthFilter (b : PyData → Bool) : ∀ (ds : List PyData), PyData.depthAll (ds.filter b) ≤ PyData.depthAll ds
  | [] => Nat.le_refl _
  | d :: r => by
    have ih := depthFilter b r
    rw [List.filter_cons]
    show _ ≤ max d.depth (PyData.depthAll r)
    cases b d
    · exact Nat.le_trans ih (Nat.le_max_right _ _)
    · show max d.depth (PyData.depthAll (r.filter b)) ≤ _
      omega
theorem gd_at {ds : List PyData} {k : Nat} {d : PyData} (h : ds[k]? = some d) : ds.getD k .none = d := by
  rw [List.getD_eq_getElem?_getD, h]
  rfl
theorem row_no {ds : List PyData} {k : Nat} (hk : k < ds.length) (h : okAt ds k = false) : rowB (.tuple ds) = false := by
  show (List.range ds.length).all (okAt ds) = false
  rw [List.all_eq_false]
  exact ⟨k, List.mem_range.mpr hk, by rw [h]; exact Bool.false_ne_true⟩
theorem row_yes {ds : List PyData} (h : ∀ k, k < ds.length → okAt ds k = true) : rowB (.tuple ds) = true :=
  List.all_eq_true.mpr fun k hk => h k (List.mem_range.mp hk)
theorem row_split (ds : List PyData) : rowB (.tuple ds) = (ds.all nameB && (List.range (ds.length - 1)).all fun j => ltD (ds.getD j .none) (ds.getD (j + 1) .none)) := by
  rw [Bool.eq_iff_iff, Bool.and_eq_true]
  constructor
  · intro h
    have h : ∀ k, k < ds.length → okAt ds k = true := fun k hk => List.all_eq_true.mp h k (List.mem_range.mpr hk)
    refine ⟨List.all_eq_true.mpr fun d hd => ?_, List.all_eq_true.mpr fun j hj => ?_⟩
    · obtain ⟨k, hk, e⟩ := List.getElem_of_mem hd
      have q := (Bool.and_eq_true_iff.mp (h k hk)).1
      rw [gd_at (List.getElem?_eq_getElem hk), e] at q
      exact q
    · have hj := List.mem_range.mp hj
      have q := (Bool.and_eq_true_iff.mp (h (j + 1) (by omega))).2
      rw [Bool.or_eq_true] at q
      rcases q with q | q
      · exact absurd (beq_iff_eq.mp q) (by omega)
      · exact q
  · rintro ⟨h1, h2⟩
    refine row_yes fun k hk => ?_
    have q1 := List.all_eq_true.mp h1 _ (List.getElem_mem hk)
    show (nameB (ds.getD k .none) && (k == 0 || ltD (ds.getD (k - 1) .none) (ds.getD k .none))) = true
    rw [gd_at (List.getElem?_eq_getElem hk), q1, Bool.true_and]
    cases k with
    | zero => rfl
    | succ j =>
      have q2 := List.all_eq_true.mp h2 j (List.mem_range.mpr (by omega))
      rw [gd_at (List.getElem?_eq_getElem hk)] at q2
      show (false || ltD (ds.getD j .none) ds[j + 1]) = true
      rw [q2]
      rfl
theorem az_in : ∀ c : Nat, c < 128 → decide (c ∈ ("abcdefghijklmnopqrstuvwxyz" : Str).cps.toList) = decide (97 ≤ c ∧ c ≤ 122) := by
  have all : ((List.range 128).all fun c => decide (decide (c ∈ ("abcdefghijklmnopqrstuvwxyz" : Str).cps.toList) = decide (97 ≤ c ∧ c ≤ 122))) = true := by decide +kernel
  intro c hc
  exact of_decide_eq_true (List.all_eq_true.mp all c (List.mem_range.mpr hc))
end Kn


/-! En: enumerate(t), t a tuple. -/
namespace En
open PySem PySem.Spec PyProof.Rows L2
open AutoSeq1 (wpAny_loadPart')
theorem made_tup (t : Addr) (xs : Array Value) (n : Nat) (dct : Option Addr) (sl : Array (Option Value)) :
    Meets (Builtin.«enumerate.__new__» ⟨[.type "enumerate", .ref t], []⟩) (fun _ R s => s.heap.get? t = some { cls := .type "tuple", dict := dct, data := .seq xs n, slots := sl } ∧
      R (.ok (.ret (.ref (s.heap.push { cls := .type "tuple_iterator", data := .fields #[.ref t, .int 0 0] }).objs.size)))
        { s with heap := (s.heap.push { cls := .type "tuple_iterator", data := .fields #[.ref t, .int 0 0] }).push { cls := .type "enumerate", data := .fields #[.none, .bool false, .ref s.heap.objs.size, rawInt 0, .none, .none] } }) :=
  .of_wp fun prog w A R s told => by
    obtain ⟨hp, g, d, tk, os⟩ := s
    obtain ⟨ht, q⟩ := told
    have hsub := sub_enumerate
    have isT : Heap.IsTuple (Shared.heap ⟨hp, g, d, tk, os⟩) t xs := ⟨_, ht, rfl, n, rfl⟩
    wp_walk using wpAny_loadPart' ht
    refine wpAny_stack_any fun st => wpAny_pure ?_
    split
    · rename_i c _ _ _ _ _
      cases (c == Value.type "enumerate") <;> (wp_walk using wpAny_loadPart' ht, wpAny_pyIter_tuple isT; exact ⟨_, rfl, q⟩)
    · wp_walk using wpAny_loadPart' ht, wpAny_pyIter_tuple isT
      exact ⟨_, rfl, q⟩
section
variable {prog : Program} {w : World} {A : Around} {E : Value → Shared → Prop} {s : Shared}
theorem call_tup {t : Addr} {xs : Array Value} {Q : Value → Shared → Prop} (isT : s.heap.IsTuple t xs)
    (q : ∀ h', IsEnum h' (s.heap.objs.size + 1) s.heap.objs.size 0 .none → h'.IsTupleIter s.heap.objs.size t 0 → (∀ b o, s.heap.get? b = some o → h'.get? b = some o) → Q (.ref (s.heap.objs.size + 1)) { s with heap := h' }) :
    wpAny (model prog w) A (call (.type "enumerate") [.ref t]) Q E s := by
  obtain ⟨⟨c, dct, dt, sl⟩, ht, hc, n, hd⟩ := isT
  obtain rfl : c = .type "tuple" := hc
  obtain rfl : dt = .seq xs n := hd
  refine callType_new F.called_enumerate (by decide) (F.typeCall_enumerate_1 _) (F.newCall_enumerate_1 _) (fun obj => F.args_object_init_2 obj _) F.entry_enumerate_new (made_tup t xs n dct sl) ⟨ht, ?_⟩
  have z : (s.heap.push { cls := .type "tuple_iterator", data := .fields #[.ref t, .int 0 0] }).objs.size = s.heap.objs.size + 1 := Heap.size_push ..
  show _ ∧ _
  rw [z]
  have he : IsEnum ((s.heap.push { cls := .type "tuple_iterator", data := .fields #[.ref t, .int 0 0] }).push { cls := .type "enumerate", data := .fields #[.none, .bool false, .ref s.heap.objs.size, rawInt 0, .none, .none] })
      (s.heap.objs.size + 1) s.heap.objs.size 0 .none := by
    have y := Heap.get?_push_size (s.heap.push { cls := .type "tuple_iterator", data := .fields #[.ref t, .int 0 0] }) (o := { cls := .type "enumerate", data := .fields #[.none, .bool false, .ref s.heap.objs.size, rawInt 0, .none, .none] }) rfl
    rw [z] at y
    exact y
  exact ⟨⟨_, he, rfl⟩, q _ he ⟨_, Heap.get?_push_of_some _ (Heap.get?_push_size _ rfl), rfl, rfl⟩ fun _ _ y => Heap.get?_push_of_some _ (Heap.get?_push_of_some _ y)⟩
end
/-- the tuple at a at each turn, the item in a new pair -/
def Itu (K : PySem.W.Frag) (a : Addr) : It :=
  ⟨fun i H => ∃ (xs : List V) (x : V), SqT K H a xs ∧ xs[i]? = some x, fun i H v H' => ∃ T x, v = .ref T ∧ H T = none ∧ H' = upd H T (.tup [.int (i : Nat), x]) ∧ ∀ xs, SqT K H a xs → xs[i]? = some x, fun i H => ∃ xs : List V, SqT K H a xs ∧ xs.length = i⟩
theorem turn_tup {P : Program} {w : World} {K : PySem.W.Frag} {elts : List Expr} {kk : Nat} {tpos : Pos} (a e it : Addr) :
    Turn P w K (.Tuple elts kk tpos) (Itu K a) [e, it] e (fun i h => (∃ old, IsEnum h e it ((i : Nat) : Int) old) ∧ h.IsTupleIter it a i ∧ e ≠ it ∧ a ≠ it ∧ a ≠ e) where
  mem := by simp
  obj := fun i h st b hb => by
    obtain ⟨⟨old, he⟩, ⟨o, ho, hc, hd⟩, _⟩ := st
    rcases (show b = e ∨ b = it by simpa using hb) with rfl | rfl
    · exact ⟨_, he, fun v q => nomatch q⟩
    · exact ⟨o, ho, fun v q => by rw [hd] at q; cases q⟩
  keep := fun i h h' st k => let ⟨⟨old, he⟩, hi, hne, n2, n3⟩ := st; ⟨⟨old, k e (by simp) _ he⟩, hi.at fun o q => k it (by simp) o q, hne, n2, n3⟩
  item := by
    intro X hP hw hK hc i pins s σ H E I hf st hg
    subst hP hw hK
    obtain ⟨⟨old, he⟩, hit, hne, nit, nae⟩ := st
    obtain ⟨xs, x, hq, hx⟩ := hg
    obtain ⟨its, rv, p, hz⟩ := I.tuple hq
    have isT : s.heap.IsTuple a its.toArray := p
    obtain ⟨u, hu, ru⟩ := rv.get hx
    have hel : e < s.heap.objs.size := Heap.lt_size he
    have hil : it < s.heap.objs.size := by obtain ⟨_, q, _⟩ := hit; exact Heap.lt_size q
    have D := Draws.tuple (prog := X.prog) (w := X.w) (A := X.A.in1) (show X.A.in1.handled = none from I.ok.hd hc) it a nit its.toArray
    have hin : i < its.toArray.size := by
      rw [List.size_toArray, ← rv.length]
      exact (List.getElem?_eq_some_iff.mp hx).1
    have nef : e ∉ [it, a] := by
      intro z
      rcases List.mem_cons.mp z with z | z
      · exact hne z
      · exact nae (List.mem_singleton.mp z).symm
    refine wpAny_pyNext_enum_itemD D he ⟨hit, isT⟩ hin hne nef fun y h' tk hy ho st' hT hsz hk => ?_
    have hy : its.toArray[i]? = some y := hy
    have : some u = some y := by rw [← hy, ← hu]; simp
    cases this
    refine ⟨_, rfl, wpAny_letOwnedTupleGo_enum (s := { s with heap := h', toks := tk + 1 }) ho fun h'' he' sb => ?_⟩
    have hT2 : h''.get? s.heap.objs.size = some { cls := .type "tuple", data := .seq #[.int i tk, u] } := (sb.2 _ (Nat.ne_of_gt hel)).trans hT
    have new : ObjOk X.prog X.w (upd H s.heap.objs.size (.tup [.int (i : Nat), x])) h'' s.heap.objs.size (.tup [.int (i : Nat), x]) :=
      ⟨show 2 ≤ sizeLine by decide, [.int i tk, u], .cons ⟨_, rfl⟩ (.cons ru .nil), ⟨_, hT2, rfl, _, rfl⟩⟩
    have I1 : Inv X pins σ (upd H s.heap.objs.size (.tup [.int (i : Nat), x])) { s with heap := h'', toks := tk + 1 } :=
      I.turnedNew (ch := [e, it]) (fun b ob hb q => (sb.2 b (fun z => hb (by simp [z]))).trans (hk b ob (fun z => hb (by simp [z])) (fun z => hb (by simp [z])) q)) hf (Nat.le_refl _) new
    refine ⟨.ref s.heap.objs.size, _, I1, rfl, ⟨_, x, rfl, I.hok.fresh (Nat.le_refl _), rfl, fun ys hy => by rw [I.tuple_inj hy hq]; exact hx⟩, ⟨⟨u, ?_⟩, st'.1.at fun o q => (sb.2 it (Ne.symm hne)).trans q, hne, nit, nae⟩, fun b hb => ?_⟩
    · rw [show ((i + 1 : Nat) : Int) = (i : Int) + 1 by omega]
      exact he'
    · have hb' : b < s.heap.objs.size := by
        rcases (show b = e ∨ b = it by simpa using hb) with rfl | rfl
        · exact hel
        · exact hil
      rw [upd_ne (Nat.ne_of_lt hb')]
      exact (hf b hb).1
  done := by
    intro X hP hw hK hc i pins s σ H E I hf st hg
    subst hP hw hK
    obtain ⟨⟨old, he⟩, hit, hne, nit, nae⟩ := st
    obtain ⟨xs, hq, hx⟩ := hg
    obtain ⟨its, rv, p, hz⟩ := I.tuple hq
    have isT : s.heap.IsTuple a its.toArray := p
    obtain ⟨f0, f1, f2, f3, f4, f5⟩ := hf it (by simp)
    have D := Draws.tuple (prog := X.prog) (w := X.w) (A := X.A.in1) (show X.A.in1.handled = none from I.ok.hd hc) it a nit its.toArray
    have many : its.toArray.size = i := by
      rw [List.size_toArray, ← rv.length]
      exact hx
    exact wpAny_pyNext_enum_endD D he (by rw [many]; exact ⟨hit, isT⟩) fun h' eb => ⟨rfl, I.turned (t' := s.toks) (fun b o hb q => eb b o hb q) f0 f1 f3 f4 f5⟩
  self := fun A i s Q E st h => let ⟨⟨_, he⟩, _⟩ := st; wpAny_pyIter_enum he h
def iEnT (K : PySem.W.Frag) (ta : TA) : TI := fun σ H R => ta σ H fun vs G => ∃ a xs, vs = [.ref a] ∧ SqT K G a xs ∧ R (Itu K a) G
theorem pi_enT {X : Cx} {e : Expr} {ta : TA} {p pos tpos : Pos} {elts : List Expr} {kk : Nat} (hg : Gl X "enumerate") (hm : X.mg "enumerate" = none) (ha : PA X [e] ta) (hs : starEach [e] X.env = [(false, eval e X.env)] := by rfl) :
    PI X (.Tuple elts kk tpos) (.Call (.Name "enumerate" p) [e] [] pos) (iEnT X.K ta) := by
  refine ⟨fun pins s σ H R I told => Call_ (ld_blt I hg hm boot_enumerate (PyProof.Rows.callWith_type1 (thn (ha.run pos pins s σ H _ I told) ?_) hs rfl))⟩
  rintro us s1 ⟨vs, H1, I1, rv, a, xs, rfl, hq, q⟩
  obtain ⟨u, rfl, rfl⟩ := vals1 rv
  obtain ⟨its, rv', isT, room⟩ := I1.tuple hq
  have lta : a < s1.heap.objs.size := by obtain ⟨_, y, _⟩ := isT; exact Heap.lt_size y
  refine call_tup isT fun h' he hit hk => wpAny_pyIter_enum he ?_
  refine ⟨s1.heap.objs.size + 1, [s1.heap.objs.size + 1, s1.heap.objs.size], _, _, H1, rfl, I1.kept (t' := s1.toks) hk, turn_tup a (s1.heap.objs.size + 1) s1.heap.objs.size, ⟨⟨.none, he⟩, hit, Nat.succ_ne_self _, Nat.ne_of_lt lta, Nat.ne_of_lt (Nat.lt_succ_of_lt lta)⟩, fun b hb => ?_, q⟩
  have le : s1.heap.objs.size ≤ b := by
    rcases (show b = s1.heap.objs.size + 1 ∨ b = s1.heap.objs.size by simpa using hb) with rfl | rfl
    · exact Nat.le_succ _
    · exact Nat.le_refl _
  exact I1.fpOk le (I1.hok.fresh le)
theorem walk_enT {K : PySem.W.Frag} {a : Addr} {xs : List V} : Walk (Itu K a) xs.length (fun H => SqT K H a xs) (YPair (fun i => some (.int (i : Nat))) (fun i => xs[i]?)) := by
  refine ⟨fun i _ hi q => ⟨xs, xs[i], q, by simp [hi]⟩, fun _ q => ⟨xs, q, rfl⟩, fun i H v H' _ q y => ?_⟩
  obtain ⟨T, x, h1, h2, h3, h4⟩ := y
  exact ⟨T, .int (i : Nat), x, h1, h2, h3, rfl, h4 xs q⟩
end En


/-! Kn: any data asked for among the texts of a tuple. -/
namespace Kn
open PySem PySem.Spec PyProof.Rows L2
def hasT (ts : List Str) (d : PyData) : Bool := ts.any fun t => PyData.eqv (.str t) d
def rInT (K : PySem.W.Frag) : R2 := fun x y H Q => ∃ (a : Addr) (d : PyData) (ts : List Str), y = .ref a ∧ SqT K H a (ts.map V.str) ∧ Dp K H x d ∧ SeqAt.shaped d = true ∧ (∀ t ∈ ts, SeqAt.shaped (.str t) = true) ∧ Q (.bl (hasT ts d)) H
def rOutT (K : PySem.W.Frag) : R2 := fun x y H Q => ∃ (a : Addr) (d : PyData) (ts : List Str), y = .ref a ∧ SqT K H a (ts.map V.str) ∧ Dp K H x d ∧ SeqAt.shaped d = true ∧ (∀ t ∈ ts, SeqAt.shaped (.str t) = true) ∧ Q (.bl (!hasT ts d)) H
theorem lay_texts : ∀ ts : List Str, (∀ t ∈ ts, SeqAt.shaped (.str t) = true) → PyData.canLayAll0 (ts.map PyData.str) = true ∧ PyData.depthAll (ts.map PyData.str) = 0
  | [], _ => ⟨rfl, rfl⟩
  | t :: r, h => by
    obtain ⟨a, b⟩ := lay_texts r fun x m => h x (List.mem_cons_of_mem _ m)
    have q := SeqAt.canLay_of_shaped (h t (List.mem_cons_self ..))
    refine ⟨?_, ?_⟩
    · show (PyData.canLay0 (.str t) && PyData.canLayAll0 (r.map PyData.str)) = true
      rw [q, a]
      rfl
    · show max (PyData.depth (.str t)) (PyData.depthAll (r.map PyData.str)) = 0
      rw [b]
      rfl
theorem dp_texts {K : PySem.W.Frag} {H : Hp} : ∀ ts : List Str, DpAll K H (ts.map V.str) (ts.map PyData.str)
  | [] => .nil
  | t :: r => .cons (.str t) (dp_texts r)
section
variable {X : Cx}
theorem any_texts (ts : List Str) (d : PyData) : ((ts.map PyData.str).any fun y => PyData.eqv y d) = hasT ts d := by
  rw [List.any_map]
  rfl
theorem op_inT (hu : X.A.units + 64 < cLine) : OpR X (compareOp .In) (rInT X.K) := by
  intro pins s σ H x y v u Q I rx ry h
  obtain ⟨a, d, ts, rfl, ht, hd, sd, st, q⟩ := h
  obtain ⟨lay, dep⟩ := lay_texts ts st
  obtain ⟨as, r1⟩ := Dp.reads I d x v hd rx
  obtain ⟨bs, r2⟩ := Dp.reads I (.tuple (ts.map PyData.str)) (.ref a) u (.tup ht (dp_texts ts)) ry
  cases r2 with
  | tuple h1 h2 h3 h4 =>
    refine SeqAt.in_tupleAt _ ⟨_, h1, h2, _, h3⟩ (SeqAt.items_eqAt h4 r1 lay (SeqAt.canLay_of_shaped sd) (by rw [dep, Nat.zero_min]; omega)) ?_
    rw [SeqAt.any_by_data h4 lay, any_texts]
    exact ⟨.bl _, H, I, rfl, q⟩
theorem op_notInT (hu : X.A.units + 64 < cLine) : OpR X (compareOp .NotIn) (rOutT X.K) := by
  intro pins s σ H x y v u Q I rx ry h
  obtain ⟨a, d, ts, rfl, ht, hd, sd, st, q⟩ := h
  obtain ⟨lay, dep⟩ := lay_texts ts st
  obtain ⟨as, r1⟩ := Dp.reads I d x v hd rx
  obtain ⟨bs, r2⟩ := Dp.reads I (.tuple (ts.map PyData.str)) (.ref a) u (.tup ht (dp_texts ts)) ry
  cases r2 with
  | tuple h1 h2 h3 h4 =>
    refine SeqAt.notIn_tupleAt _ ⟨_, h1, h2, _, h3⟩ (SeqAt.items_eqAt h4 r1 lay (SeqAt.canLay_of_shaped sd) (by rw [dep, Nat.zero_min]; omega)) ?_
    rw [SeqAt.any_by_data h4 lay, any_texts]
    exact ⟨.bl _, H, I, rfl, q⟩
end
theorem hasT_str (ts : List Str) (m : Str) : hasT ts (.str m) = decide (m ∈ ts) := by
  unfold hasT
  induction ts with
  | nil => simp
  | cons t r ih =>
    rw [List.any_cons, ih]
    show ((t == m) || decide (m ∈ r)) = decide (m ∈ t :: r)
    by_cases e : t = m
    · subst e
      simp
    · have e2 : ¬ m = t := fun z => e z.symm
      simp [e, e2]
theorem hasT_true {ts : List Str} {d : PyData} (h : hasT ts d = true) : ∃ m, d = .str m ∧ m ∈ ts := by
  obtain ⟨t, m, e⟩ := List.any_eq_true.mp h
  cases d with
  | str x =>
    have e : (t == x) = true := e
    exact ⟨x, rfl, by rw [← beq_iff_eq.mp e]; exact m⟩
  | none => cases e
  | bool b => cases e
  | int n => cases e
  | list l => cases e
  | tuple l => cases e
  | dict l => cases e
end Kn


namespace Kn
open PySem PySem.Spec PyProof.Rows L2
structure Def (K : PySem.W.Frag) (mg : Str → Option Value) (x : Str) (i : Nat) (ps : List Str) (f : Addr) (fd : FuncData) : Prop where
  F : Fun K x x (topS i) f fd
  b : Binds K fd ps []
  m : mg x = some (.ref f)
abbrev nThing : List Str := ["thing"]
theorem scInteger : FnScope nThing ["thing"] (defScope (topS 10)) := ⟨rfl, rfl, rfl, by decide +kernel, rfl, by decide +kernel, by decide +kernel⟩
theorem scPair : FnScope nThing ["thing"] (defScope (topS 7)) := ⟨rfl, rfl, rfl, by decide +kernel, rfl, by decide +kernel, by decide +kernel⟩
theorem scName : FnScope nThing ["thing"] (defScope (topS 12)) := ⟨rfl, rfl, rfl, by decide +kernel, rfl, by decide +kernel, by decide +kernel⟩
theorem scNumber : FnScope nThing ["thing"] (defScope (topS 11)) := ⟨rfl, rfl, rfl, by decide +kernel, rfl, by decide +kernel, by decide +kernel⟩
theorem scStore : FnScope nThing ["thing"] (defScope (topS 13)) := ⟨rfl, rfl, rfl, by decide +kernel, rfl, by decide +kernel, by decide +kernel⟩
def spB (K : PySem.W.Frag) (f : PyData → Bool) : Sp := fun vs H Q _ => ∃ (v : V) (d : PyData), vs = [v] ∧ Dp K H v d ∧ Q (.bl (f d)) H
structure Nice (d : PyData) : Prop where
  g : goodD d = true
  dp : d.depth ≤ 40
  n : nodesD d ≤ 1000
theorem Nice.tm {ds : List PyData} (h : Nice (.tuple ds)) : Tm 1000 39 ds := ⟨h.g, by have := h.n; show nodesDs ds ≤ 1000; have e : nodesD (.tuple ds) = 1 + nodesDs ds := rfl; omega, by have := h.dp; have e : (PyData.tuple ds).depth = PyData.depthAll ds + 1 := rfl; omega⟩
theorem Nice.get {ds : List PyData} (h : Nice (.tuple ds)) {i : Nat} {d : PyData} (e : ds[i]? = some d) : Nice d := by
  obtain ⟨a, b, c⟩ := h.tm.get e
  exact ⟨a, by omega, b⟩
theorem Nice.len {ds : List PyData} (h : Nice (.tuple ds)) : ds.length ≤ 1000 := Nat.le_trans (nodes_len ds) h.tm.n
theorem Nice.slen {x : Str} (h : Nice (.str x)) : x.length ≤ 1000 := by
  have := h.n
  have e : nodesD (.str x) = 1 + x.length := rfl
  omega
def spG (K : PySem.W.Frag) (f : PyData → Bool) : Sp := fun vs H Q _ => ∃ (v : V) (d : PyData), vs = [v] ∧ Dp K H v d ∧ Nice d ∧ ∀ H', Same H H' → Q (.bl (f d)) H'
def pairB : PyData → Bool
  | .tuple ds => decide (ds.length = 2)
  | _ => false
theorem tupD {K : PySem.W.Frag} {H : Hp} {v : V} {ds : List PyData} (h : Dp K H v (.tuple ds)) : ∃ p xs, v = .ref p ∧ SqT K H p xs ∧ DpAll K H xs ds ∧ xs.length = ds.length := by
  cases h with
  | tup a b => exact ⟨_, _, rfl, a, b, dsLen b⟩
theorem getD_of {α : Type} {ds : List α} {i : Nat} {d e : α} (h : ds[i]? = some d) : ds.getD i e = d := by
  rw [List.getD_eq_getElem?_getD, h]
  rfl
theorem name_str {d : PyData} (h : nameB d = true) : ∃ x, d = .str x := by
  cases d <;> first | exact ⟨_, rfl⟩ | cases h
def natB : PyData → Bool
  | .int n => decide (0 ≤ n)
  | _ => false
def storeB : PyData → Bool
  | .tuple [n, i] => nameB n && natB i
  | _ => false
theorem nice2 {a b : PyData} (h : Nice (.tuple [a, b])) : Nice a ∧ Nice b := ⟨h.get (i := 0) rfl, h.get (i := 1) rfl⟩
theorem two_of {α : Type} {l : List α} (h : l.length = 2) : ∃ a b, l = [a, b] := by
  match l, h with
  | [a, b], _ => exact ⟨a, b, rfl⟩
theorem pair_two {d : PyData} (h : pairB d = true) : ∃ a b, d = .tuple [a, b] := by
  cases d with
  | tuple ds =>
    obtain ⟨a, b, rfl⟩ := two_of (of_decide_eq_true h)
    exact ⟨a, b, rfl⟩
  | _ => cases h
theorem store_not {d : PyData} (h : pairB d = false) : storeB d = false := by
  cases d with
  | tuple ds =>
    match ds, h with
    | [], _ => rfl
    | [_], _ => rfl
    | [_, _], h => cases h
    | _ :: _ :: _ :: _, _ => rfl
  | _ => rfl
section
variable {P : Program} {w : World} {K : PySem.W.Frag} {mg : Str → Option Value} {base : Heap}
theorem ok_integer {f : Addr} {fd : FuncData} (F : Fun K "is_integer" "is_integer" (topS 10) f fd) (mi : mg "isinstance" = none) (mn : mg "int" = none) (mb : mg "bool" = none) : FnOk P w K mg base CX0 1 f fd ["thing"] (spB K intB) := by
  refine F.ok scInteger (fun vs H Q E h => ?_) (fun cdv A outer s H vs Q E hr h => ?_)
  · obtain ⟨v, d, rfl, _⟩ := h
    rfl
  · obtain ⟨v, d, rfl, hd, q⟩ := h
    refine ⟨_, pss_one (ps_ret (pe_and (pe_callB call_isi (by rfl) mi boot_isinstance (pa_cons (pv 0) (pa_cons (pe_bltn (v := .ty "int") (by rfl) mn (by decide +kernel) rfl) pa_nil))) (pe_one (pe_not (pe_callB call_isi (by rfl) mi boot_isinstance (pa_cons (pv 0) (pa_cons (pe_bltn (v := .ty "bool") (by rfl) mb (by decide +kernel) rfl) pa_nil))))))), ?_⟩
    refine ⟨v, rfl, v, .ty "int", _, _, _, rfl, .ty "int", ty_of hd, kit_int, ?_⟩
    refine ⟨_, rfl, ?_⟩
    have no : (intB d || boolB d) = true → Q (.bl (!boolB d)) H := fun z => by
      cases d <;> first | exact q | cases z
    cases z : intB d || boolB d
    · refine iteF ?_
      cases d <;> first | exact q | cases z
    · exact iteT ⟨v, rfl, v, .ty "bool", _, _, _, rfl, .ty "bool", ty_of hd, kit_bool, _, rfl, no z⟩
theorem ok_pair {f : Addr} {fd : FuncData} (F : Fun K "is_pair" "is_pair" (topS 7) f fd) (ms : mg "isinstance" = none) (mt : mg "tuple" = none) (ml : mg "len" = none) : FnOk P w K mg base CX0 1 f fd ["thing"] (spG K pairB) := by
  refine F.ok scPair (fun vs H Q E h => ?_) (fun cdv A outer s H vs Q E hr h => ?_)
  · obtain ⟨v, d, rfl, _⟩ := h
    rfl
  · obtain ⟨v, d, rfl, hd, ni, q⟩ := h
    refine ⟨_, pss_one (ps_ret (pe_and (pe_callB call_isi (by rfl) ms boot_isinstance (pa_cons (pv 0) (pa_cons (pe_bltn (v := .ty "tuple") (by rfl) mt (by decide +kernel) rfl) pa_nil))) (pe_one (pe_cmpR op_eq (pe_callB call_len_seq (by rfl) ml PySem.boot_len (pa_cons (pv 0) pa_nil)) pe_int (nomark _))))), ?_⟩
    refine ⟨v, rfl, v, .ty "tuple", _, _, _, rfl, .ty "tuple", ty_of hd, kit_tup, _, rfl, ?_⟩
    cases hd with
    | tup ht hds =>
      rename_i p xs ds
      refine iteT ⟨_, rfl, _, _, rfl, .inr ht, rfl, ?_⟩
      have e := dsLen hds
      rw [dec_int]
      have e2 : ((xs.length : Int) == 2) = pairB (.tuple ds) := by
        show _ = decide (ds.length = 2)
        rw [← e]
        by_cases z : xs.length = 2
        · rw [z]; rfl
        · rw [decide_eq_false z]; exact beq_eq_false_iff_ne.mpr (by omega)
      rw [e2]
      exact q H (Same.refl H)
    | non => exact iteF (q H (Same.refl H))
    | bl b => exact iteF (q H (Same.refl H))
    | int n => exact iteF (q H (Same.refl H))
    | str n => exact iteF (q H (Same.refl H))
    | lst a b => exact iteF (q H (Same.refl H))
theorem ok_name {f : Addr} {fd : FuncData} (F : Fun K "is_name" "is_name" (topS 12) f fd) (ml : mg "len" = none) (mi : mg "isinstance" = none) (ms : mg "str" = none) : FnOk P w K mg base CX0 1 f fd ["thing"] (spG K nameB) := by
  refine F.ok scName (fun vs H Q E h => ?_) (fun cdv A outer s H vs Q E hr h => ?_)
  · obtain ⟨v, d, rfl, _⟩ := h
    rfl
  · obtain ⟨v, d, rfl, hd, ni, q⟩ := h
    refine ⟨_, pss_cons (ps_if (PW.pt (pw_or (pt_not (pt_val (pe_callB call_isi (by rfl) mi boot_isinstance (pa_cons (pv 0) (pa_cons (pe_bltn (v := .ty "str") (by rfl) ms (by decide +kernel) rfl) pa_nil))))) (pw_or1 (pt_cmpR op_gt (pe_callB call_len_str (by rfl) ml PySem.boot_len (pa_cons (pv 0) pa_nil)) pe_int (nomark _))))) (pss_one (ps_ret pe_bl)) pss_nil)
      (pss_one (ps_ret (pe_and (pe_m0 PySem.F.slot_str_isascii PySem.F.type_str_isascii mt_isascii (pv 0)) (pe_and (pe_m0 PySem.F.slot_str_isalpha PySem.F.type_str_isalpha mt_isalpha (pv 0)) (pe_one (pe_m0 PySem.F.slot_str_islower PySem.F.type_str_islower mt_islower (pv 0))))))), ?_⟩
    have q0 := q H (Same.refl H)
    refine ⟨v, rfl, v, .ty "str", _, _, _, rfl, .ty "str", ty_of hd, kit_str, _, rfl, ?_⟩
    cases hd with
    | str x =>
      have asc : (x.cps.toList.all fun c => decide (c < 128)) = true := ni.g
      have hl := ni.slen
      refine iteF ⟨_, rfl, x, rfl, Nat.le_trans hl (by decide), x.length, 8, rfl, rfl, _, rfl, ?_⟩
      by_cases big : x.length ≤ 8
      · rw [decide_eq_false (show ¬ (8 : Int) < (x.length : Nat) by omega)]
        refine iteF ?_
        have e1 : Txt.isascii x = true := by
          show x.cps.all (· < 128) = true
          rw [← Array.all_toList]
          exact asc
        refine ⟨_, rfl, ⟨_, rfl⟩, x, rfl, rfl, trivial, _, rfl, ?_⟩
        rw [e1]
        refine iteT ⟨_, rfl, ⟨_, rfl⟩, x, rfl, rfl, trivial, _, rfl, ?_⟩
        have e2 : nameB (.str x) = (Txt.isalpha x && Txt.islower x) := by
          rw [low_is asc]
          show (decide (1 ≤ x.length) && decide (x.length ≤ 8) && lowB x) = _
          rw [decide_eq_true big, Bool.and_true]
        rw [e2] at q0
        cases z : Txt.isalpha x
        · rw [z] at q0
          exact iteF q0
        · rw [z] at q0
          exact iteT ⟨_, rfl, ⟨_, rfl⟩, x, rfl, rfl, trivial, q0⟩
      · rw [decide_eq_true (show (8 : Int) < (x.length : Nat) by omega)]
        have e2 : nameB (.str x) = false := by
          show (decide (1 ≤ x.length) && decide (x.length ≤ 8) && lowB x) = _
          rw [decide_eq_false big, Bool.and_false, Bool.false_and]
        rw [e2] at q0
        exact iteT q0
    | non => exact iteT q0
    | bl b => exact iteT q0
    | int n => exact iteT q0
    | lst a b => exact iteT q0
    | tup a b => exact iteT q0
theorem ok_number {f fI : Addr} {fd fdI : FuncData} (F : Fun K "is_number" "is_number" (topS 11) f fd) (I : Def K mg "is_integer" 10 ["thing"] fI fdI) (OI : FnOk P w K mg base CX0 1 fI fdI ["thing"] (spB K intB)) : FnOk P w K mg base CX0 2 f fd ["thing"] (spB K natB) := by
  refine F.ok scNumber (fun vs H Q E h => ?_) (fun cdv A outer s H vs Q E hr h => ?_)
  · obtain ⟨v, d, rfl, _⟩ := h
    rfl
  · obtain ⟨v, d, rfl, hd, q⟩ := h
    refine ⟨_, pss_one (ps_ret (pe_and (pe_call OI hr (by rfl) I.m I.F.kp I.b .nil pass0 (pa_cons (pv 0) pa_nil)) (pe_one (pe_cmpR op_ge (pv 0) pe_int (nomark _))))), ?_⟩
    refine ⟨v, rfl, v, d, rfl, hd, _, rfl, ?_⟩
    cases hd with
    | int n => exact iteT ⟨_, rfl, n, 0, rfl, rfl, q⟩
    | non => exact iteF q
    | bl b => exact iteF q
    | str x => exact iteF q
    | lst a b => exact iteF q
    | tup a b => exact iteF q
theorem ok_store {f fP fN fM : Addr} {fd dP dN dM : FuncData} (F : Fun K "is_store" "is_store" (topS 13) f fd) (Pr : Def K mg "is_pair" 7 ["thing"] fP dP) (OP : FnOk P w K mg base CX0 1 fP dP ["thing"] (spG K pairB))
    (N : Def K mg "is_name" 12 ["thing"] fN dN) (ON : FnOk P w K mg base CX0 1 fN dN ["thing"] (spG K nameB)) (M : Def K mg "is_number" 11 ["thing"] fM dM) (OM : FnOk P w K mg base CX0 2 fM dM ["thing"] (spB K natB)) : FnOk P w K mg base CX0 3 f fd ["thing"] (spG K storeB) := by
  refine F.ok scStore (fun vs H Q E h => ?_) (fun cdv A outer s H vs Q E hr h => ?_)
  · obtain ⟨v, d, rfl, _⟩ := h
    rfl
  · obtain ⟨v, d, rfl, hd, ni, q⟩ := h
    have hr1 : Room 1 _ := hr.mono (by decide)
    refine ⟨_, pss_one (ps_ret (pe_and (pe_call OP hr1 (by rfl) Pr.m Pr.F.kp Pr.b .nil pass0 (pa_cons (pv 0) pa_nil)) (pe_and (pe_call ON hr1 (by rfl) N.m N.F.kp N.b .nil pass0 (pa_cons (pe_ix ix_tup (pv 0) pe_int (fun _ _ => rfl)) pa_nil)) (pe_one (pe_call OM hr (by rfl) M.m M.F.kp M.b .nil pass0 (pa_cons (pe_ix ix_tup (pv 0) pe_int (fun _ _ => rfl)) pa_nil)))))), ?_⟩
    refine ⟨v, rfl, v, d, rfl, hd, ni, fun H1 s1 => ⟨_, rfl, ?_⟩⟩
    cases z : pairB d
    · rw [store_not z] at q
      exact iteF (q H1 s1)
    · obtain ⟨a, b, rfl⟩ := pair_two z
      obtain ⟨p, xs, rfl, hT, hds, lx⟩ := tupD hd
      obtain ⟨va, vb, rfl⟩ := two_of lx
      obtain ⟨na, nb⟩ := nice2 ni
      cases hds with
      | cons da hds =>
        cases hds with
        | cons db _ =>
          have e : storeB (.tuple [a, b]) = (nameB a && natB b) := rfl
          rw [e] at q
          refine iteT ⟨.ref p, rfl, p, _, 0, va, rfl, rfl, tupS s1 hT, atI_nat (j := 0) rfl, va, a, rfl, dKeep s1 da, na, fun H2 s2 => ⟨_, rfl, ?_⟩⟩
          have s12 := s1.trans s2
          cases z1 : nameB a
          · rw [z1] at q
            exact iteF (q H2 s12)
          · rw [z1, Bool.true_and] at q
            exact iteT ⟨.ref p, rfl, p, _, 1, vb, rfl, rfl, tupS s12 hT, atI_nat (j := 1) rfl, vb, b, rfl, dKeep s12 db, q H2 s12⟩
end
end Kn


namespace Kn
open PySem PySem.Spec PyProof.Rows L2
abbrev nNo : List Str := ["web", "row"]
theorem scNo : FnScope nNo ["web"] (defScope (topS 15)) := ⟨rfl, rfl, rfl, by decide +kernel, rfl, by decide +kernel, by decide +kernel⟩
abbrev nFo : List Str := ["web", "kind", "row"]
theorem scFo : FnScope nFo ["web", "kind"] (defScope (topS 16)) := ⟨rfl, rfl, rfl, by decide +kernel, rfl, by decide +kernel, by decide +kernel⟩
abbrev nFe : List Str := ["web", "kind"]
theorem scFe : FnScope nFe ["web", "kind"] (defScope (topS 17)) := ⟨rfl, rfl, rfl, by decide +kernel, rfl, by decide +kernel, by decide +kernel⟩
abbrev nTa : List Str := ["web", "kind"]
theorem scTa : FnScope nTa ["web", "kind"] (defScope (topS 18)) := ⟨rfl, rfl, rfl, by decide +kernel, rfl, by decide +kernel, by decide +kernel⟩
abbrev nCs : List Str := ["web", "kind", "mark", "_", "fee", "has"]
theorem scCs : FnScope nCs ["web", "kind", "mark"] (defScope (topS 19)) := ⟨rfl, rfl, rfl, by decide +kernel, rfl, by decide +kernel, by decide +kernel⟩
abbrev nCm : List Str := ["marks"]
theorem scCm : FnScope nCm ["marks"] (defScope (topS 21)) := ⟨rfl, rfl, rfl, by decide +kernel, rfl, by decide +kernel, by decide +kernel⟩
abbrev nPo : List Str := ["web", "marks", "thing"]
theorem scPo : FnScope nPo ["web", "marks", "thing"] (defScope (topS 23)) := ⟨rfl, rfl, rfl, by decide +kernel, rfl, by decide +kernel, by decide +kernel⟩
abbrev nLv : List Str := ["web", "pairs", "name", "mark", "kind"]
theorem scLv : FnScope nLv ["web", "pairs"] (defScope (topS 24)) := ⟨rfl, rfl, rfl, by decide +kernel, rfl, by decide +kernel, by decide +kernel⟩
/-! ### a web of kinds whose names are apart -/
def rowOf (g : Pg) (n : Str) : Option Ent := g.es.find? fun e => decide (e.name = n)
structure GW (g : Pg) : Prop where
  ok : g.ok
  nd : (g.es.map (·.name)).Nodup
  fee : ∀ e ∈ g.es, 1 ≤ e.fee ∧ e.fee ≤ 9
  tab : ∀ e ∈ g.es, ∀ s ∈ e.row, s ∈ g.es.map (·.name)
  asks : g.asks ∈ g.es.map (·.name)
  nm : ∀ e ∈ g.es, nameB (.str e.name) = true
  few : g.es.length ≤ 4
  rows : ∀ e ∈ g.es, e.row.length ≤ 5
theorem row_is {g : Pg} {n : Str} {e : Ent} (h : rowOf g n = some e) : e ∈ g.es ∧ e.name = n := by
  unfold rowOf at h
  have z := List.find?_some h
  exact ⟨List.mem_of_find?_eq_some h, by simpa using z⟩
theorem row_mem {g : Pg} {n : Str} (h : n ∈ g.es.map (·.name)) : ∃ e, rowOf g n = some e := by
  obtain ⟨e, he, rfl⟩ := List.mem_map.mp h
  have : (rowOf g e.name).isSome = true := by
    unfold rowOf
    rw [List.find?_isSome]
    exact ⟨e, he, decide_eq_true rfl⟩
  exact Option.isSome_iff_exists.mp this
theorem row_none {g : Pg} {n : Str} (h : n ∉ g.es.map (·.name)) : rowOf g n = none := by
  cases z : rowOf g n with
  | none => rfl
  | some e =>
    obtain ⟨a, b⟩ := row_is z
    exact absurd (b ▸ List.mem_map.mpr ⟨e, a, rfl⟩) h
theorem row_tab {g : Pg} (G : GW g) {n s : Str} {e : Ent} (h : rowOf g n = some e) (hs : s ∈ e.row) : ∃ e', rowOf g s = some e' := row_mem (G.tab e (row_is h).1 s hs)
def canB (g : Pg) (n : Str) (m : Int) : Bool := match rowOf g n with
  | some e => !e.has && decide (e.fee ≤ m)
  | none => false
/-- what a pair leaves -/
def lvOf (g : Pg) (s : Str × Int) : List (Str × Int) := match rowOf g s.1 with
  | some e => e.row.map fun k => (k, s.2 - e.fee)
  | none => []
def lv (g : Pg) (ps : List (Str × Int)) : List (Str × Int) := ps.flatMap (lvOf g)
def PrAt (H : Hp) (v : V) (s : Str × Int) : Prop := ∃ p, v = .ref p ∧ H p = some (.tup [.str s.1, .int s.2])
inductive PrsAt (H : Hp) : List V → List (Str × Int) → Prop
  | nil : PrsAt H [] []
  | cons {v : V} {vs : List V} {s : Str × Int} {ss : List (Str × Int)} : PrAt H v s → PrsAt H vs ss → PrsAt H (v :: vs) (s :: ss)
theorem PrAt.ts {H H' : Hp} {v : V} {s : Str × Int} (t : TS H H') : PrAt H v s → PrAt H' v s := fun ⟨p, e, h⟩ => ⟨p, e, t.1 _ _ h⟩
theorem PrsAt.ts {H H' : Hp} (t : TS H H') : ∀ {vs : List V} {ss : List (Str × Int)}, PrsAt H vs ss → PrsAt H' vs ss
  | _, _, .nil => .nil
  | _, _, .cons a b => .cons (a.ts t) (PrsAt.ts t b)
theorem PrsAt.len {H : Hp} : ∀ {vs : List V} {ss : List (Str × Int)}, PrsAt H vs ss → vs.length = ss.length
  | _, _, .nil => rfl
  | _, _, .cons _ b => congrArg Nat.succ (PrsAt.len b)
theorem PrsAt.app {H : Hp} : ∀ {vs ws : List V} {ss tt : List (Str × Int)}, PrsAt H vs ss → PrsAt H ws tt → PrsAt H (vs ++ ws) (ss ++ tt)
  | _, _, _, _, .nil, h => h
  | _, _, _, _, .cons a b, h => .cons a (PrsAt.app b h)
theorem PrsAt.get {H : Hp} : ∀ {vs : List V} {ss : List (Str × Int)} {i : Nat} {v : V}, PrsAt H vs ss → vs[i]? = some v → ∃ s, ss[i]? = some s ∧ PrAt H v s
  | _, _, i, v, .nil, h => by cases h
  | _, _, 0, v, .cons a b, h => by
    have h : some _ = some v := h
    cases h
    exact ⟨_, rfl, a⟩
  | _, _, i + 1, v, .cons a b, h => PrsAt.get (i := i) b h
def dPr (s : Str × Int) : PyData := .tuple [.str s.1, .int s.2]
theorem PrAt.dp {K : PySem.W.Frag} {H : Hp} {v : V} {s : Str × Int} : PrAt H v s → Dp K H v (dPr s) := fun ⟨p, e, h⟩ => e ▸ .tup (.inl (.inl h)) (.cons (.str _) (.cons (.int _) .nil))
theorem PrsAt.dp {K : PySem.W.Frag} {H : Hp} : ∀ {vs : List V} {ss : List (Str × Int)}, PrsAt H vs ss → DpAll K H vs (ss.map dPr)
  | _, _, .nil => .nil
  | _, _, .cons a b => .cons a.dp (PrsAt.dp b)
theorem pr_seq {K : PySem.W.Frag} {H : Hp} {v : V} {s : Str × Int} (h : Dp K H v (dPr s)) : ∃ p, v = .ref p ∧ SqT K H p [.str s.1, .int s.2] := by
  obtain ⟨p, xs, rfl, hT, hds, lx⟩ := tupD h
  cases hds with
  | cons da hds =>
    cases hds with
    | cons db hds =>
      cases da
      cases db
      cases hds
      exact ⟨p, rfl, hT⟩
theorem lv_snoc {g : Pg} {ps : List (Str × Int)} {i : Nat} {s : Str × Int} (h : ps[i]? = some s) : lv g (ps.take (i + 1)) = lv g (ps.take i) ++ lvOf g s := by
  unfold lv
  rw [List.take_add_one, h, List.flatMap_append]
  show _ ++ (lvOf g s ++ []) = _
  rw [List.append_nil]
/-- whether any data is a pair of the web -/
def vpB (g : Pg) (p : Int) : PyData → Bool
  | .tuple [.str n, .int m] => (rowOf g n).isSome && decide (0 ≤ m) && decide (m ≤ p) && canB g n m
  | _ => false
def spNo (K : PySem.W.Frag) : Sp := fun vs H Q _ => ∃ (v : V) (g : Pg), vs = [v] ∧ PgAt K H v g ∧ g.es.length ≤ 1000 ∧ ∀ (p : Addr) (H' : Hp), Same H H' → H' p = some (.tup ((g.es.map (·.name)).map V.str)) → Q (.ref p) H'
def spFo (K : PySem.W.Frag) : Sp := fun vs H Q _ => ∃ (v : V) (g : Pg) (n : Str) (e : Ent), vs = [v, .str n] ∧ PgAt K H v g ∧ rowOf g n = some e ∧ ∀ r, EntAt K H r e → Q r H
def spFe (K : PySem.W.Frag) : Sp := fun vs H Q _ => ∃ (v : V) (g : Pg) (n : Str) (e : Ent), vs = [v, .str n] ∧ PgAt K H v g ∧ rowOf g n = some e ∧ Q (.int e.fee) H
def spTa (K : PySem.W.Frag) : Sp := fun vs H Q _ => ∃ (v : V) (g : Pg) (n : Str) (e : Ent), vs = [v, .str n] ∧ PgAt K H v g ∧ rowOf g n = some e ∧ ∀ q, SqT K H q (e.row.map V.str) → Q (.ref q) H
def spCs (K : PySem.W.Frag) : Sp := fun vs H Q _ => ∃ (v : V) (g : Pg) (n : Str) (m : Int), vs = [v, .str n, .int m] ∧ PgAt K H v g ∧ (rowOf g n).isSome = true ∧ Q (.bl (canB g n m)) H
def spCm : Sp := fun vs H Q _ => ∃ m : Int, vs = [.int m] ∧ 0 ≤ m ∧ Q .non H
def spPo (K : PySem.W.Frag) : Sp := fun vs H Q _ => ∃ (w v : V) (g : Pg) (p : Int) (d : PyData), vs = [w, .int p, v] ∧ PgAt K H w g ∧ g.es.length ≤ 1000 ∧ (∀ e ∈ g.es, nameB (.str e.name) = true) ∧ Dp K H v d ∧ Nice d ∧ ∀ H', Same H H' → Q (.bl (vpB g p d)) H'
def spLv (K : PySem.W.Frag) : Sp := fun vs H Q _ => ∃ (w : V) (q : Addr) (g : Pg) (xs : List V) (ps : List (Str × Int)), vs = [w, .ref q] ∧ PgAt K H w g ∧ GW g ∧ SqT K H q xs ∧ DpAll K H xs (ps.map dPr) ∧ ps.length ≤ 1000 ∧ (∀ s ∈ ps, (rowOf g s.1).isSome = true) ∧
  ∀ (l : Addr) (ys : List V) (H' : Hp), Same H H' → H' l = some (.lst ys) → PrsAt H' ys (lv g ps) → ys.length ≤ 8 * ps.length → Q (.ref l) H'
section
variable {P : Program} {w : World} {K : PySem.W.Frag} {mg : Str → Option Value} {base : Heap}
theorem ok_no {f : Addr} {fd : FuncData} (F : Fun K "names_of" "names_of" (topS 15) f fd) (mt : mg "tuple" = none) : FnOk P w K mg base CX0 1 f fd ["web"] (spNo K) := by
  refine F.ok scNo (fun vs H Q E h => ?_) (fun cdv A outer s H vs Q E hr h => ?_)
  · obtain ⟨v, g, rfl, _⟩ := h
    rfl
  · obtain ⟨v, g, rfl, ⟨p, q0, ws, rfl, hp, hq, hE⟩, few, q⟩ := h
    have lw := hE.len
    refine ⟨_, (pss_one (ps_ret (pe_callTy call_tuple_of (by rfl) mt (by decide +kernel) (pa_cons (pe_lc (own := [("row", 1)]) (g := gName 1) (by rfl) scNo.nd (pi_tup (pe_ix ix_tup (pv 0) pe_int (fun _ _ => rfl))) (blkOk_by (own := [("row", 1)]) (N := nNo) (sc := defScope (topS 15)) (by decide +kernel)) (fun _ _ _ _ _ => pg_name (i := 1) scNo.nd rfl (Or.inl rfl)) (fun _ _ _ _ _ => pts_nil) (fun _ _ _ _ _ => (pe_ix (r := rIxT K) ix_tup (pv 1) pe_int (fun _ _ => rfl)))) pa_nil)))), ?_⟩
    dsimp only [tRet, tCB, tCons]
    refine lc_mapT (a := q0) (xs := ws) ((g.es.map (·.name)).map V.str) (by simp; omega) (by omega) hq (fun R r => ⟨.ref p, rfl, p, _, 0, .ref q0, rfl, rfl, hp, atI_nat (j := 0) rfl, r⟩) (fun v => rfl) ?_ ?_
    · intro i x y G R hx hy sm k
      obtain ⟨e, he, ⟨pe, qe, rfl, he1, _⟩⟩ := hE.get hx
      obtain ⟨n, hn, rfl⟩ := map_get hy
      obtain ⟨e', he', rfl⟩ := map_get hn
      obtain rfl : e = e' := Option.some.inj (he.symm.trans he')
      exact ⟨.ref pe, rfl, pe, _, 0, .str e.name, rfl, rfl, tupS sm he1, atI_nat (j := 0) rfl, k G (Same.refl G)⟩
    · intro D G nD sm hD
      refine ⟨D, _, rfl, .inl ⟨.inl (.inl hD), fun l nl => q l _ (sm.trans (same_new nl)) upd_same⟩⟩
theorem ok_fo {f : Addr} {fd : FuncData} (F : Fun K "form_of" "form_of" (topS 16) f fd) : FnOk P w K mg base CX0 1 f fd ["web", "kind"] (spFo K) := by
  refine F.ok scFo (fun vs H Q E h => ?_) (fun cdv A outer s H vs Q E hr h => ?_)
  · obtain ⟨v, g, n, e, rfl, _⟩ := h
    rfl
  · obtain ⟨v, g, n, e, rfl, ⟨p, q0, ws, rfl, hp, hq, hE⟩, hr', q⟩ := h
    refine ⟨_, (pss_cons (ps_for PassesOwn.never rfl (pi_tup (pe_ix ix_tup (pv 0) pe_int (fun _ _ => rfl))) (pg_name (i := 2) scFo.nd rfl (.inl rfl)) (pss_one (ps_if (pt_cmpR op_eq (pe_ix ix_tup (pv 2) pe_int (fun _ _ => rfl)) (pv 1) (nomark _)) (pss_one (ps_ret (pv 2))) pss_nil)))
      (pss_one ps_never)), ?_⟩
    have lw := hE.len
    refine ⟨.ref p, rfl, p, _, 0, .ref q0, rfl, rfl, hp, atI_nat (j := 0) rfl, q0, rfl, ⟨_, hq⟩, ?_⟩
    refine for_tup (K := K) (a := q0) (xs := ws) (fun i σ G => G = H ∧ (∃ y, σ = [some (.ref p), some (.str n), y]) ∧ rowOf ⟨g.es.drop i, g.asks⟩ n = some e) ⟨rfl, ⟨none, rfl⟩, hr'⟩ (fun i σ G _ h => h.1 ▸ hq) ?_ ?_
    · rintro i x σ G hx ⟨rfl, ⟨y, rfl⟩, rd⟩
      obtain ⟨e', he', hv⟩ := hE.get hx
      obtain ⟨pe, qe, rfl, he1, hqe⟩ := id hv
      have hi : i < g.es.length := (List.getElem?_eq_some_iff.mp he').1
      have dr : g.es.drop i = e' :: g.es.drop (i + 1) := by
        rw [List.drop_eq_getElem_cons hi]
        congr 1
        exact Option.some.inj ((List.getElem?_eq_getElem hi).symm.trans he')
      unfold rowOf at rd
      dsimp only at rd
      rw [dr, List.find?_cons] at rd
      refine ⟨.ref pe, rfl, pe, _, 0, .str e'.name, rfl, rfl, he1, atI_nat (j := 0) rfl, _, rfl, rfl, _, rfl, ?_⟩
      by_cases z : e'.name = n
      · rw [decide_eq_true z] at rd
        cases rd
        rw [decide_eq_true (congrArg V.str z)]
        exact iteT ⟨_, rfl, q _ hv⟩
      · rw [decide_eq_false z] at rd
        rw [decide_eq_false (fun y => z (V.str.inj y))]
        exact iteF ⟨rfl, ⟨_, rfl⟩, rd⟩
    · rintro σ G ⟨rfl, _, rd⟩
      rw [lw, List.drop_length] at rd
      cases rd
theorem ok_fe {f fF : Addr} {fd fdF : FuncData} (F : Fun K "fee_of" "fee_of" (topS 17) f fd) (Fo : Def K mg "form_of" 16 ["web", "kind"] fF fdF) (OF : FnOk P w K mg base CX0 1 fF fdF ["web", "kind"] (spFo K)) : FnOk P w K mg base CX0 2 f fd ["web", "kind"] (spFe K) := by
  refine F.ok scFe (fun vs H Q E h => ?_) (fun cdv A outer s H vs Q E hr h => ?_)
  · obtain ⟨v, g, n, e, rfl, _⟩ := h
    rfl
  · obtain ⟨v, g, n, e, rfl, pg, hr', q⟩ := h
    refine ⟨_, (pss_one (ps_ret (pe_ix ix_tup (pe_call OF hr (by rfl) Fo.m Fo.F.kp Fo.b .nil pass0 (pa_cons (pv 0) (pa_cons (pv 1) pa_nil))) pe_int (fun _ _ => rfl)))), ?_⟩
    refine ⟨_, rfl, _, rfl, v, g, n, e, rfl, pg, hr', fun r ⟨pe, qe, er, he1, hqe⟩ => ?_⟩
    subst er
    exact ⟨pe, _, 1, .int e.fee, rfl, rfl, he1, atI_nat (j := 1) rfl, q⟩
theorem ok_ta {f fF : Addr} {fd fdF : FuncData} (F : Fun K "table_of" "table_of" (topS 18) f fd) (Fo : Def K mg "form_of" 16 ["web", "kind"] fF fdF) (OF : FnOk P w K mg base CX0 1 fF fdF ["web", "kind"] (spFo K)) : FnOk P w K mg base CX0 2 f fd ["web", "kind"] (spTa K) := by
  refine F.ok scTa (fun vs H Q E h => ?_) (fun cdv A outer s H vs Q E hr h => ?_)
  · obtain ⟨v, g, n, e, rfl, _⟩ := h
    rfl
  · obtain ⟨v, g, n, e, rfl, pg, hr', q⟩ := h
    refine ⟨_, (pss_one (ps_ret (pe_ix ix_tup (pe_call OF hr (by rfl) Fo.m Fo.F.kp Fo.b .nil pass0 (pa_cons (pv 0) (pa_cons (pv 1) pa_nil))) pe_int (fun _ _ => rfl)))), ?_⟩
    refine ⟨_, rfl, _, rfl, v, g, n, e, rfl, pg, hr', fun r ⟨pe, qe, er, he1, hqe⟩ => ?_⟩
    subst er
    exact ⟨pe, _, 3, .ref qe, rfl, rfl, he1, atI_nat (j := 3) rfl, q qe hqe⟩
theorem ok_cs {f fF : Addr} {fd fdF : FuncData} (F : Fun K "can_send" "can_send" (topS 19) f fd) (Fo : Def K mg "form_of" 16 ["web", "kind"] fF fdF) (OF : FnOk P w K mg base CX0 1 fF fdF ["web", "kind"] (spFo K)) : FnOk P w K mg base CX0 2 f fd ["web", "kind", "mark"] (spCs K) := by
  refine F.ok scCs (fun vs H Q E h => ?_) (fun cdv A outer s H vs Q E hr h => ?_)
  · obtain ⟨v, g, n, m, rfl, _⟩ := h
    rfl
  · obtain ⟨v, g, n, m, rfl, pg, hr', q⟩ := h
    obtain ⟨e, he⟩ := Option.isSome_iff_exists.mp hr'
    refine ⟨_, (pss_cons (ps_asg (pe_call OF hr (by rfl) Fo.m Fo.F.kp Fo.b .nil pass0 (pa_cons (pv 0) (pa_cons (pv 1) pa_nil))) (pg_tup (by rfl) (pgs_cons (pg_name (i := 3) scCs.nd rfl (.inl rfl)) (pgs_cons (pg_name (i := 4) scCs.nd rfl (.inl rfl)) (pgs_cons (pg_name (i := 5) scCs.nd rfl (.inl rfl)) (pgs_cons (pg_name (i := 3) scCs.nd rfl (.inl rfl)) pgs_nil))))))
      (pss_one (ps_ret (pe_and (pe_not (pv 5)) (pe_one (pe_cmpR op_ge (pv 2) (pv 4) (nomark _))))))), ?_⟩
    have ec : canB g n m = (!e.has && decide (e.fee ≤ m)) := by
      unfold canB
      rw [he]
    rw [ec] at q
    refine ⟨_, rfl, _, rfl, v, g, n, e, rfl, pg, he, fun r ⟨pe, qe, er, he1, hqe⟩ => ?_⟩
    subst er
    refine ⟨pe, _, rfl, he1, rfl, _, _, rfl, _, _, rfl, _, _, rfl, _, _, rfl, rfl, ?_⟩
    dsimp only [gName]
    refine ⟨_, rfl, e.has, rfl, _, rfl, ?_⟩
    cases hh : e.has
    · rw [hh] at q
      exact iteT ⟨_, rfl, _, rfl, m, e.fee, rfl, rfl, q⟩
    · rw [hh] at q
      exact iteF q
theorem ok_cm {f fN : Addr} {fd fdN : FuncData} (F : Fun K "check_marks" "check_marks" (topS 21) f fd) (N : Def K mg "is_number" 11 ["thing"] fN fdN) (ON : FnOk P w K mg base CX0 2 fN fdN ["thing"] (spB K natB)) : FnOk P w K mg base CX0 3 f fd ["marks"] spCm := by
  refine F.ok scCm (fun vs H Q E h => ?_) (fun cdv A outer s H vs Q E hr h => ?_)
  · obtain ⟨m, rfl, _⟩ := h
    rfl
  · obtain ⟨m, rfl, m0, q⟩ := h
    refine ⟨_, (pss_one (ps_if (pt_not (pt_val (pe_call ON hr (by rfl) N.m N.F.kp N.b .nil pass0 (pa_cons (pv 0) pa_nil)))) (pss_one ps_never) pss_nil)), ?_⟩
    refine ⟨_, rfl, .int m, .int m, rfl, .int m, _, rfl, ?_⟩
    have e : natB (.int m) = true := decide_eq_true m0
    rw [e]
    exact iteF q
end
end Kn


/-! Kn: a dict by a comprehension whose keys are tuples; <= of alike data. -/
namespace Kn
open PySem PySem.Spec PyProof.Rows L2
section
variable {X : Cx}
/-- the store at a turn's end, for either kind of dict -/
theorem put_turn {ps : List (Addr × Obj)} {τ : L2.St} {G G' : Hp} {m : Shared} {B : Value → Shared → Prop} {d : Addr} {key val : V} {ku vu : Value} {R : Unit → Shared → Prop} (room : X.A.units + 1 < cLine)
    (J : Inv X ps τ G m) (g : DPut G d key val G') (rk : RelV key ku) (rl : RelV val vu) (fin : ∀ m', Inv X ps τ G' m' → R () m') :
    wpAny (model X.prog X.w) X.A (dictSet d ku vu) R B m := by
  obtain ⟨pairs, k, e, rfl, lt, rfl⟩ | ⟨pairs, k, b, e, rfl, eb, lt, rfl⟩ := g
  · exact d_dictSet J e lt rk rl fin
  · cases (show ku = Value.ref b from rk)
    obtain ⟨_, notSys, held, pr, dict⟩ := dt_of J.hok e
    have room' : (tupleKind (mixKind X.prog X.w)).room X.A := by
      first
        | exact tupleKind_room_in1 room
        | (show _ < _; omega)
    have few : held.length ≤ sizeLine := Paired.length pr ▸ Nat.le_of_lt lt
    refine wpAny_dictSet_heap (hsz := few) room' (key_of J.hok eb) dict fun hp dict' same => fin _ ?_
    obtain ⟨ob, slots, epo, at', ex, da, sl, _, nd⟩ := dict'
    refine d_write J (by rw [e]; trivial) same ⟨ob, at'⟩ ⟨Nat.le_trans (length_putK ..) (by omega), notSys, _, (pr.put k eb rl).keeps fun c ys ec => (upd_ne (ne_of ec e (fun z => nomatch z))).trans ec, ob, slots, epo, at', ex, da, sl, nd⟩
/-- one turn of such a comprehension, from the item on -/
def turnT (D : Addr) (g : TG) (tt : TT) (tk tv : TE) (vs : List Nat) (σ : L2.St) (x : V) (G : Hp) (Nx : Hp → Prop) : Prop :=
  g x (wipe σ vs) G fun τ G2 => wipe τ vs = wipe σ vs ∧ tt τ G2 fun b G3 => if b = true then tk τ G3 fun y G4 => tv τ G4 fun z G5 => ∃ G6, DPut G5 D y z G6 ∧ Nx G6 else Nx G3
def tDcT (wi : TI) (g : TG) (tt : TT) (tk tv : TE) (vs : List Nat) : TE := fun σ H Q => wi σ H fun J G => ∀ D, G D = none → ∃ W : Nat → Nat → Hp → Prop, (∃ m, W 0 m (upd G D (.dT []))) ∧
  ∀ i m F, W i m F → (J.stop i F ∧ Q (.ref D) F) ∨ (J.go i F ∧ ∃ Nx : Hp → Prop, (∀ F', Nx F' → ∃ k, k < m ∧ W (i + 1) k F') ∧ ∀ x F', J.yld i F x F' → turnT D g tt tk tv vs σ x F' Nx)
theorem dcT_core {pins : List (Addr × Obj)} {s : Shared} {σ : L2.St} {H : Hp} {Q : VK} {use : Option (Value → Sem Unit)} {Qf : Value → Shared → Prop} {pos' : Pos} {kx vx tg iter : Expr} {ifs : List Expr} {scope : Scope} {own : List (Str × Nat)} {pos : Pos} {wi : TI} {g : TG} {tt : TT} {tk tv : TE} (room : X.A.units + 1 < cLine) (hc : X.calm = true) (hN : X.N.Nodup) (I : Inv X pins σ H s) (hi : PI X tg iter wi)
    (ok : BlkOk X.N X.env.scope scope own)
    (hg : ∀ (m : Shared) (F : Hp) (C : Addr) (cl : List (Str × Addr)) (fp : List Addr), PG (X.blk m F scope (compEnvC scope cl C X.env) fp) tg g)
    (ht : ∀ (m : Shared) (F : Hp) (C : Addr) (cl : List (Str × Addr)) (fp : List Addr), PTs (X.blk m F scope (compEnvC scope cl C X.env) fp) ifs tt)
    (hk : ∀ (m : Shared) (F : Hp) (C : Addr) (cl : List (Str × Addr)) (fp : List Addr), PE (X.blk m F scope (compEnvC scope cl C X.env) fp) kx tk)
    (he : ∀ (m : Shared) (F : Hp) (C : Addr) (cl : List (Str × Addr)) (fp : List Addr), PE (X.blk m F scope (compEnvC scope cl C X.env) fp) vx tv)
    (hs : ∀ x, foldedSetIterable iter X.env x = pure x) (q : tDcT wi g tt tk tv (own.map (·.2)) σ H Q)
    (last : ∀ D C m z F, Inv X pins σ F m → Q (.ref D) F → m.heap.Ns C z → FpOk X pins F C → compPost (model X.prog X.w) X.A X.xe use Qf (.ref D) C (.ok .next) m) :
    wpAny (model X.prog X.w) X.A (comprehension (.DictComp kx vx [⟨tg, iter, ifs, 0⟩] scope pos) scope X.env pos' newDict false (eval iter X.env) use) Qf X.xe s := by
  have cells : ∀ y ∈ scope.names, y.2 = .free → ∃ c, X.env.cells.lookup y.1 = some c := fun y my ey => (ok.free y my ey).elim (fun k => I.ok.has _ (.inl k)) (fun k => I.ok.has _ (.inr k))
  refine wpAny_comprehension_free rfl hs (closure_ok cells) ok.kind (fun y my ey => by rw [ok.uniq y my, ey]) ?_
  refine thn (hi.run pins s σ H _ I q) fun _ _ p => thn p fun _ a0 ⟨it, fp, tn, J, F0, ei, I0, T, at0, fr, q0⟩ => ?_
  subst ei
  refine wpAny_newObj_type (newEnv_comp ?_)
  -- the dict is laid
  obtain ⟨D, eD⟩ : ∃ D, D = a0.heap.objs.size := ⟨_, rfl⟩
  rw [← eD]
  have nD : F0 D = none := I0.hok.fresh (by rw [eD]; exact Nat.le_refl _)
  obtain ⟨W, ⟨n0, start⟩, step⟩ := q0 D nD
  obtain ⟨a1, e1⟩ : ∃ a1 : Shared, a1 = { a0 with heap := a0.heap.push { cls := .type "dict", data := .dict #[] } } := ⟨_, rfl⟩
  have h1 : a1.heap = a0.heap.push { cls := .type "dict", data := .dict #[] } := by rw [e1]
  obtain ⟨F1, eF⟩ : ∃ F1, F1 = upd F0 D (.dT []) := ⟨_, rfl⟩
  rw [← eF] at start
  have I1 : Inv X pins σ F1 a1 := by
    subst e1 eF eD
    exact I0.laid (t' := a0.toks) (fun _ _ z => Heap.get?_push_of_some _ z) (Nat.le_refl _) (dt_empty a0.heap I0.big)
  have low : ∀ b, b ∈ fp → b < a0.heap.objs.size := fun b mb => (T.obj _ _ at0 b mb).elim fun _ z => Heap.lt_size z.1
  have held : ∀ b, b ∈ fp → FpOk X pins F1 b := fun b mb => ⟨by
    subst eF eD
    rw [upd_ne (Nat.ne_of_lt (low b mb))]
    exact (fr b mb).1, (fr b mb).2⟩
  have big : ∀ b, b ∈ fp → b < a1.heap.objs.size := fun b mb => by
    rw [h1, Heap.size_push]
    exact Nat.lt_succ_of_lt (low b mb)
  have at1 : tn 0 a1.heap := T.keep _ _ _ at0 fun _ _ _ z => by
    rw [h1]
    exact Heap.get?_push_of_some _ z
  have I2 := block_start I1 ok hN fun b mb => ⟨held b mb, big b mb⟩
  -- what the block's parts do
  have rg := hg a1 F1 a1.heap.objs.size (cellsFrom (a1.heap.objs.size + 1) scope.names (cloFrom X.env.cells scope.names [])) fp
  have rt := ht a1 F1 a1.heap.objs.size (cellsFrom (a1.heap.objs.size + 1) scope.names (cloFrom X.env.cells scope.names [])) fp
  have rk := hk a1 F1 a1.heap.objs.size (cellsFrom (a1.heap.objs.size + 1) scope.names (cloFrom X.env.cells scope.names [])) fp
  have re := he a1 F1 a1.heap.objs.size (cellsFrom (a1.heap.objs.size + 1) scope.names (cloFrom X.env.cells scope.names [])) fp
  rw [← e1]
  obtain ⟨B, eB⟩ : ∃ B, B = compEnvC scope (cellsFrom (a1.heap.objs.size + 1) scope.names (cloFrom X.env.cells scope.names [])) a1.heap.objs.size X.env := ⟨_, rfl⟩
  obtain ⟨a2, e2⟩ : ∃ a2 : Shared, a2 = { a1 with heap := pushCells (a1.heap.push { cls := .type "dict", data := .dict #[] }) scope.names } := ⟨_, rfl⟩
  suffices z : codeAny (model X.prog X.w) X.A (.compStart (.DictComp kx vx [⟨tg, iter, ifs, 0⟩] scope pos) 0 (.ref it) (.ref D) B) (compPost (model X.prog X.w) X.A X.xe use Qf (.ref D) a1.heap.objs.size) a2 by
    rw [eB, e2] at z
    exact z
  rw [← eB] at I2 rg rt rk re
  rw [← e2] at I2
  have loc : B.locals = a1.heap.objs.size := by rw [eB]; rfl
  have at2 : tn 0 a2.heap := T.keep _ _ _ at1 fun _ _ _ z => by
    rw [e2]
    exact pushCells_keeps _ _ _ _ (Heap.get?_push_of_some _ z)
  have none1 : ∀ b, b ∈ fp → F1 b = none := fun b mb => (held b mb).1
  have fpIn : ∀ {τ : L2.St} {F : Hp} {m : Shared}, Inv (X.blk a1 F1 scope B fp) [] τ F m → (∀ b ∈ fp, F b = none) → ∀ b ∈ fp, FpOk (X.blk a1 F1 scope B fp) [] F b := by
    intro τ F m J nn b mb
    have y := J.ok.exf b mb
    exact ⟨nn b mb, y.1, J.ok.exfs b mb, .inl mb, fun x c z => y.2 x c z, fun p hp => by
      have hp : p ∈ ([] : List (Addr × Obj)) ++ [] := hp
      cases hp⟩
  obtain ⟨vs, ev⟩ : ∃ vs, vs = own.map (·.2) := ⟨_, rfl⟩
  rw [← ev] at I2 step
  have loop : codeAny (model X.prog X.w) X.A (.compLoop (.DictComp kx vx [⟨tg, iter, ifs, 0⟩] scope pos) 0 (.ref it) (.ref D) B) (compPost (model X.prog X.w) X.A X.xe use Qf (.ref D) a1.heap.objs.size) a2 := by
    refine compLoop_anyD (fun k m => ∃ i F, Inv (X.blk a1 F1 scope B fp) [] (wipe σ vs) F m ∧ tn i m.heap ∧ (∀ b ∈ fp, F b = none) ∧ W i k F) (fun k m ⟨i, F, J0, atm, nn, w⟩ => ?_) n0 ⟨0, F1, I2, at2, none1, start⟩
    rcases step i k F w with ⟨stop, out⟩ | ⟨go, Nx, after, turn⟩
    · refine thnF (T.done (X.blk a1 F1 scope B fp) rfl rfl rfl hc i [] m _ F (fun _ _ => False) J0 (fpIn J0 nn) atm stop) fun _ m1 ⟨er, J1⟩ => ?_
      subst er
      -- the def's own context again
      have back : Inv X pins σ F m1 := I1.call' (ch := fp) J1.os J1.base J1.hok J1.bare fun b mb => by
        obtain ⟨_, u1, u2, u3, u4, u5⟩ := held b mb
        exact ⟨u3, u1, u4, u5⟩
      have gone : F a1.heap.objs.size = none := by
        rw [← loc]
        exact J1.free
      obtain ⟨mm, ns, _⟩ := J1.loc
      have ns : m1.heap.Ns B.locals mm := ns
      rw [loc] at ns
      exact last D a1.heap.objs.size m1 mm F back out ns (I1.fpOk (Nat.le_refl _) gone)
    · refine thnF (T.item (X.blk a1 F1 scope B fp) rfl rfl rfl hc i [] m _ F (fun _ _ => False) J0 (fpIn J0 nn) atm go) fun _ m1 ⟨u, er, p1⟩ => ?_
      subst er
      refine thnF p1 fun _ m2 ⟨x, F2, J2, ru, yl, at3, nn2⟩ => ?_
      have J2p := J2.pinned (fpIn J2 nn2) (T.obj _ _ at3)
      refine thnF (rg.run _ m2 _ F2 x u _ J2p ru (turn x F2 yl)) fun _ m3 ⟨τ, F3, J3, ew, q3⟩ => ?_
      have next : ∀ {m' : Shared} {F' : Hp}, Inv (X.blk a1 F1 scope B fp) ([] ++ pinsAt fp m2.heap) τ F' m' → Nx F' → ∃ k', k' < k ∧ ∃ i F, Inv (X.blk a1 F1 scope B fp) [] (wipe σ vs) F m' ∧ tn i m'.heap ∧ (∀ b ∈ fp, F b = none) ∧ W i k' F := by
        intro m' F' J' nx
        obtain ⟨k', lt, w'⟩ := after F' nx
        have pin : ∀ b, b ∈ fp → ∀ o, m2.heap.get? b = some o → m'.heap.get? b = some o ∧ F' b = none := by
          intro b mb o z
          have y := J'.pin (b, o) (List.mem_append_right _ (List.mem_append_right _ (mem_pinsAt mb z)))
          exact ⟨y.1, y.2.1⟩
        refine ⟨k', lt, i + 1, F', (J'.unpinned (pins := [])).weak (by rw [← ew, wipe_length]) (fun j v z => ?_), T.keep _ _ _ at3 fun b mb o z => (pin b mb o z).1, fun b mb => ?_, w'⟩
        · rw [← ew] at z
          exact (wipe_some z).1
        · obtain ⟨o, z, _⟩ := T.obj _ _ at3 b mb
          exact (pin b mb o z).2
      refine thnF (rt.run _ m3 τ F3 _ J3 q3) fun b m4 ⟨F4, J4, q4⟩ => ?_
      cases b
      · exact next J4 q4
      · refine thnF (rk.run _ m4 τ F4 _ J4 q4) fun ku m5 ⟨y, F5, J5, rky, q5⟩ => thnF (re.run _ m5 τ F5 _ J5 q5) fun vu m6 ⟨z, F6, J6, rvz, F7, put, nx⟩ => ?_
        exact put_turn (X := X.blk a1 F1 scope B fp) room J6 put rky rvz fun m7 J7 => next J7 nx
  exact codeAny_compStart_dict loop (T.self X.A 0 _ _ _ at2 loop)
theorem pe_dcT {kx vx tg iter : Expr} {ifs : List Expr} {scope : Scope} {own : List (Str × Nat)} {pos : Pos} {wi : TI} {g : TG} {tt : TT} {tk tv : TE} (room : X.A.units + 1 < cLine) (hc : X.calm = true) (hN : X.N.Nodup) (hi : PI X tg iter wi)
    (ok : BlkOk X.N X.env.scope scope own)
    (hg : ∀ (m : Shared) (F : Hp) (C : Addr) (cl : List (Str × Addr)) (fp : List Addr), PG (X.blk m F scope (compEnvC scope cl C X.env) fp) tg g)
    (ht : ∀ (m : Shared) (F : Hp) (C : Addr) (cl : List (Str × Addr)) (fp : List Addr), PTs (X.blk m F scope (compEnvC scope cl C X.env) fp) ifs tt)
    (hk : ∀ (m : Shared) (F : Hp) (C : Addr) (cl : List (Str × Addr)) (fp : List Addr), PE (X.blk m F scope (compEnvC scope cl C X.env) fp) kx tk)
    (he : ∀ (m : Shared) (F : Hp) (C : Addr) (cl : List (Str × Addr)) (fp : List Addr), PE (X.blk m F scope (compEnvC scope cl C X.env) fp) vx tv)
    (hs : ∀ x, foldedSetIterable iter X.env x = pure x := by intro _; rfl) : PE X (.DictComp kx vx [⟨tg, iter, ifs, 0⟩] scope pos) (tDcT wi g tt tk tv (own.map (·.2))) := by
  refine ⟨fun pins s σ H Q I q => ?_⟩
  rw [arm_eval_DictComp]
  refine dcT_core room hc hN I hi ok hg ht hk he hs q fun D C m z F back out ns fo => ⟨z, ns, fun h3 same => ?_⟩
  obtain ⟨u0, u1, _, u3, u4, u5⟩ := fo
  exact ⟨.ref D, F, back.turned (t' := m.toks) (fun b o hb e => (same.2 b hb).trans e) u0 u1 u3 u4 u5, rfl, out⟩
theorem ps_setDcT {i : Nat} {y : Str} {py spos : Pos} {kx vx tg iter : Expr} {ifs : List Expr} {scope : Scope} {own : List (Str × Nat)} {pos : Pos} {wi : TI} {g : TG} {tt : TT} {tk tv : TE} (room : X.A.units + 1 < cLine) (hc : X.calm = true) (hN : X.N.Nodup) (hy : X.N[i]? = some y) (loc : X.env.scope.names.lookup y = some .local)
    (hsw : swapsWith (.DictComp kx vx [⟨tg, iter, ifs, 0⟩] scope pos) (some (.Name y py)) spos.line X.env = pure true) (hi : PI X tg iter wi)
    (ok : BlkOk X.N X.env.scope scope own)
    (hg : ∀ (m : Shared) (F : Hp) (C : Addr) (cl : List (Str × Addr)) (fp : List Addr), PG (X.blk m F scope (compEnvC scope cl C X.env) fp) tg g)
    (ht : ∀ (m : Shared) (F : Hp) (C : Addr) (cl : List (Str × Addr)) (fp : List Addr), PTs (X.blk m F scope (compEnvC scope cl C X.env) fp) ifs tt)
    (hk : ∀ (m : Shared) (F : Hp) (C : Addr) (cl : List (Str × Addr)) (fp : List Addr), PE (X.blk m F scope (compEnvC scope cl C X.env) fp) kx tk)
    (he : ∀ (m : Shared) (F : Hp) (C : Addr) (cl : List (Str × Addr)) (fp : List Addr), PE (X.blk m F scope (compEnvC scope cl C X.env) fp) vx tv)
    (hs : ∀ x, foldedSetIterable iter X.env x = pure x := by intro _; rfl) : PS X (.Assign [.Name y py] (.DictComp kx vx [⟨tg, iter, ifs, 0⟩] scope pos) spos) (tAsg (tDcT wi g tt tk tv (own.map (·.2))) (gName i)) := by
  refine ⟨fun pins s σ H D I q => ?_⟩
  rw [exec_Assign_Name_used _ _ _ _ hsw]
  refine wpAny_bind (wpAny_standAt (wpAny_bind ?_))
  have q : tDcT wi g tt tk tv (own.map (·.2)) σ H (fun x F => gName i x σ F D.nx) := q
  show wpAny _ X.A (do let _ ← comprehension (.DictComp kx vx [⟨tg, iter, ifs, 0⟩] scope pos) scope X.env (firstIterPos [⟨tg, iter, ifs, 0⟩] pos) newDict false (eval iter X.env) (some (assign (.Name y py) X.env))) _ _ s
  refine wpAny_bind (thn (dcT_core (Qf := fun _ m => SP X pins D .next m) room hc hN I hi ok hg ht hk he hs q fun L C m z F back out ns fo => ?_) fun _ m out => wpAny_pure (wpAny_pure out))
  show wpAny _ _ (assign (.Name y py) X.env (.ref L)) _ _ _
  obtain ⟨u0, u1, _, u3, u4, u5⟩ := fo
  refine wpAny_assign_Name (store_ok2 (v := V.ref L) back hN hy (.inl loc) rfl (fun m2 J ⟨a, sb, ha⟩ => ?_) (.inr loc))
  have far : C ≠ a := ha.elim (fun z => z ▸ u1) fun z e => u4 y a z e.symm
  exact ⟨z, ns.sameBut sb far, fun h3 same => ⟨_, F, J.turned (t' := m2.toks) (fun b o hb e => (same.2 b hb).trans e) u0 u1 u3 u4 u5, out⟩⟩
theorem swD_true {kx vx : Expr} {gs : List Comprehension} {scope : Scope} {pos py : Pos} {y : Str} {l : Nat} {env : Env} (fn : env.scope.kind = .function) (loc : env.scope.names.lookup y = some .local) (row : (py.line == pos.line) = true)
    (out : (scope.names.any fun (n, k) => n == y && (k == .local || k == .cell)) = false) : swapsWith (.DictComp kx vx gs scope pos) (some (.Name y py)) l env = pure true := by
  have e1 : env.kindOf y = some .local := loc
  have e2 : env.blockKind = .function := by
    unfold Env.blockKind
    rw [fn]
    rfl
  unfold swapsWith
  simp only [e2, e1, out, Expr.pos, row]
  rfl
/-- over a list that stays -/
theorem dcT_list {K : PySem.W.Frag} {a : Addr} {xs : List V} {g : TG} {tt : TT} {tk tv : TE} {vs : List Nat} {σ : L2.St} {G : Hp} {D : Addr} {Qd : Hp → Prop} (Pv : Nat → Hp → Prop) (start : Pv 0 (upd G D (.dT []))) (stay : ∀ i F, i ≤ xs.length → Pv i F → SqL K F a xs)
    (turn : ∀ i x F, xs[i]? = some x → Pv i F → turnT D g tt tk tv vs σ x F (Pv (i + 1))) (fin : ∀ F, Pv xs.length F → Qd F) :
    ∃ W : Nat → Nat → Hp → Prop, (∃ m, W 0 m (upd G D (.dT []))) ∧
      ∀ i m F, W i m F → ((Itl K a).stop i F ∧ Qd F) ∨ ((Itl K a).go i F ∧ ∃ Nx : Hp → Prop, (∀ F', Nx F' → ∃ k, k < m ∧ W (i + 1) k F') ∧ ∀ x F', (Itl K a).yld i F x F' → turnT D g tt tk tv vs σ x F' Nx) := by
  refine ⟨fun i m F => m = xs.length - i ∧ i ≤ xs.length ∧ Pv i F, ⟨_, rfl, Nat.zero_le _, start⟩, fun i m F ⟨em, le, p⟩ => ?_⟩
  have at' := stay i F le p
  rcases Nat.lt_or_ge i xs.length with lt | ge
  · have here : xs[i]? = some xs[i] := List.getElem?_eq_getElem lt
    refine .inr ⟨⟨xs, xs[i], at', here⟩, Pv (i + 1), fun F' p' => ⟨xs.length - (i + 1), by omega, rfl, lt, p'⟩, fun x F' y => ?_⟩
    obtain ⟨rfl, y⟩ := y
    exact turn i x _ (y xs at') p
  · obtain rfl : i = xs.length := Nat.le_antisymm le ge
    exact .inl ⟨⟨xs, at', Nat.le_refl _⟩, fin F p⟩
/-! ### <= of alike data -/
def rLeD (K : PySem.W.Frag) : R2 := fun x y H Q => ∃ (d e : PyData), Dp K H x d ∧ Dp K H y e ∧ PySem.W.alike d e = true ∧ d ≠ .none ∧ d.depth ≤ 60 ∧ Q (.bl (!PySem.W.dataLt e d)) H
theorem op_leD (room : X.A.units + 64 < cLine) : OpR X (compareOp .LtE) (rLeD X.K) := by
  intro pins s σ H x y v u Q I rx ry ⟨d, e, hd, he, al, no, dep, q⟩
  obtain ⟨as, r1⟩ := Dp.reads I d x v hd rx
  obtain ⟨bs, r2⟩ := Dp.reads I e y u he ry
  exact PySem.W.rcLe_alike d e X.A s v u as bs r1 r2 al no (by omega) X.prog X.w X.xe (EP X pins σ Q) ⟨.bl _, H, I, rfl, q⟩
/-! ### data in tuples of data; a tuple of words and numbers in a dict -/
def rHasD (K : PySem.W.Frag) (neg : Bool) : R2 := fun x y H Q => ∃ d ds, Dp K H x d ∧ Dp K H y (.tuple ds) ∧ SeqAt.shaped d = true ∧ SeqAt.shaped (.tuple ds) = true ∧ d.depth ≤ 60 ∧ Q (.bl ((ds.any fun z => PyData.eqv z d) != neg)) H
theorem op_inTD (room : X.A.units + 64 < cLine) : OpR X (compareOp .In) (rHasD X.K false) := by
  rintro pins s σ H x y v u Q I rx ry ⟨d, ds, hd, he, sd, se, dep, q⟩
  obtain ⟨as, r1⟩ := Dp.reads I d x v hd rx
  obtain ⟨bs, r2⟩ := Dp.reads I (.tuple ds) y u he ry
  rw [Bool.bne_false] at q
  have lays : PyData.canLayAll0 ds = true := SeqAt.canLay_of_shaped se
  exact SeqAt.in_tuple_reads r2 r1 lays (SeqAt.canLay_of_shaped sd) (by have := Nat.min_le_right (PyData.depthAll ds) d.depth; omega) ⟨.bl _, H, I, rfl, q⟩
theorem op_notInTD (room : X.A.units + 64 < cLine) : OpR X (compareOp .NotIn) (rHasD X.K true) := by
  rintro pins s σ H x y v u Q I rx ry ⟨d, ds, hd, he, sd, se, dep, q⟩
  obtain ⟨as, r1⟩ := Dp.reads I d x v hd rx
  obtain ⟨bs, r2⟩ := Dp.reads I (.tuple ds) y u he ry
  rw [Bool.bne_true] at q
  have lays : PyData.canLayAll0 ds = true := SeqAt.canLay_of_shaped se
  exact SeqAt.notIn_tuple_reads r2 r1 lays (SeqAt.canLay_of_shaped sd) (by have := Nat.min_le_right (PyData.depthAll ds) d.depth; omega) ⟨.bl _, H, I, rfl, q⟩
def rHasL (K : PySem.W.Frag) (neg : Bool) : R2 := fun x y H Q => ∃ d ds, Dp K H x d ∧ Dp K H y (.list ds) ∧ SeqAt.shaped d = true ∧ PyData.canLayAll0 ds = true ∧ d.depth ≤ 60 ∧ Q (.bl ((ds.any fun z => PyData.eqv z d) != neg)) H
theorem op_inLD (room : X.A.units + 64 < cLine) : OpR X (compareOp .In) (rHasL X.K false) := by
  rintro pins s σ H x y v u Q I rx ry ⟨d, ds, hd, he, sd, se, dep, q⟩
  obtain ⟨as, r1⟩ := Dp.reads I d x v hd rx
  obtain ⟨bs, r2⟩ := Dp.reads I (.list ds) y u he ry
  rw [Bool.bne_false] at q
  exact SeqAt.in_list_reads r2 r1 se (SeqAt.canLay_of_shaped sd) (by have := Nat.min_le_right (PyData.depthAll ds) d.depth; omega) ⟨.bl _, H, I, rfl, q⟩
theorem op_notInLD (room : X.A.units + 64 < cLine) : OpR X (compareOp .NotIn) (rHasL X.K true) := by
  rintro pins s σ H x y v u Q I rx ry ⟨d, ds, hd, he, sd, se, dep, q⟩
  obtain ⟨as, r1⟩ := Dp.reads I d x v hd rx
  obtain ⟨bs, r2⟩ := Dp.reads I (.list ds) y u he ry
  rw [Bool.bne_true] at q
  exact SeqAt.notIn_list_reads r2 r1 se (SeqAt.canLay_of_shaped sd) (by have := Nat.min_le_right (PyData.depthAll ds) d.depth; omega) ⟨.bl _, H, I, rfl, q⟩
def rKeyD (K : PySem.W.Frag) (neg : Bool) : R2 := fun x y H Q => ∃ (b D : Addr) (ks : List Key) (kvs : List (List Key × V)), x = .ref b ∧ SqT K H b (ks.map kV) ∧ y = .ref D ∧ H D = some (.dT kvs) ∧ Q (.bl ((valV kvs ks).isSome != neg)) H
theorem key_seq {pins : List (Addr × Obj)} {s : Shared} {σ : L2.St} {H : Hp} {b : Addr} {ks : List Key} (I : Inv X pins σ H s) (h : SqT X.K H b (ks.map kV)) : (tupleKind (mixKind X.prog X.w)).is s.heap ks b := by
  obtain ⟨its, r, ⟨o, at', c, n, da⟩, _⟩ := I.tuple h
  exact ⟨o, its.toArray, n, at', c, da, by simpa using items_are r⟩
theorem op_notInK (room : X.A.units + 1 < cLine) : OpR X (compareOp .NotIn) (rKeyD X.K true) := by
  rintro pins s σ H x y v u Q I rx ry ⟨b, D, ks, kvs, rfl, hb, rfl, hD, q⟩
  obtain rfl : v = Value.ref b := rx
  obtain rfl : u = Value.ref D := ry
  obtain ⟨_, notSys, held, pr, dict⟩ := dt_of I.hok hD
  refine wpAny_notIn_heap (tupleKind_room_in1 room) (key_seq I hb) notSys dict ⟨.bl _, H, I.tok _, ?_, q⟩
  have e := (pr.val ks).isSome_eq
  rw [Option.isSome_map] at e
  rw [Bool.bne_true, e]
  rfl
end
end Kn


namespace Kn
open PySem PySem.Spec PyProof.Rows L2
section
variable {P : Program} {w : World} {K : PySem.W.Frag} {mg : Str → Option Value} {base : Heap}
theorem vp_not {g : Pg} {p : Int} {d : PyData} (nm : ∀ e ∈ g.es, nameB (.str e.name) = true) (h : storeB d = false) : vpB g p d = false := by
  cases z : vpB g p d with
  | false => rfl
  | true =>
    exfalso
    match d, z, h with
    | .tuple [.str n, .int m], z, h =>
      have z : ((rowOf g n).isSome && decide (0 ≤ m) && decide (m ≤ p) && canB g n m) = true := z
      rw [Bool.and_eq_true, Bool.and_eq_true, Bool.and_eq_true] at z
      obtain ⟨e, he⟩ := Option.isSome_iff_exists.mp z.1.1.1
      obtain ⟨a, b⟩ := row_is he
      have y := nm e a
      rw [b] at y
      have h : (nameB (.str n) && decide (0 ≤ m)) = false := h
      rw [y, z.1.1.2] at h
      cases h
theorem store_is {d : PyData} (h : storeB d = true) : ∃ n m, d = .tuple [.str n, .int m] ∧ 0 ≤ m := by
  match d, h with
  | .tuple [a, b], h =>
    have h : (nameB a && natB b) = true := h
    rw [Bool.and_eq_true] at h
    obtain ⟨x, rfl⟩ := name_str h.1
    match b, h.2 with
    | .int m, y => exact ⟨x, m, rfl, of_decide_eq_true y⟩
theorem mem_rows {g : Pg} {n : Str} : (n ∈ g.es.map (·.name)) ↔ (rowOf g n).isSome = true := ⟨fun h => let ⟨e, he⟩ := row_mem h; by rw [he]; rfl, fun h => by
  obtain ⟨e, he⟩ := Option.isSome_iff_exists.mp h
  obtain ⟨a, b⟩ := row_is he
  exact b ▸ List.mem_map.mpr ⟨e, a, rfl⟩⟩
theorem ok_po {f fS fN fC : Addr} {fd fdS fdN fdC : FuncData} (F : Fun K "is_pair_of" "is_pair_of" (topS 23) f fd) (St : Def K mg "is_store" 13 ["thing"] fS fdS) (OS : FnOk P w K mg base CX0 3 fS fdS ["thing"] (spG K storeB))
    (N : Def K mg "names_of" 15 ["web"] fN fdN) (ON : FnOk P w K mg base CX0 1 fN fdN ["web"] (spNo K)) (Cs : Def K mg "can_send" 19 ["web", "kind", "mark"] fC fdC) (OC : FnOk P w K mg base CX0 2 fC fdC ["web", "kind", "mark"] (spCs K)) :
    FnOk P w K mg base CX0 4 f fd ["web", "marks", "thing"] (spPo K) := by
  refine F.ok scPo (fun vs H Q E h => ?_) (fun cdv A outer s H vs Q E hr h => ?_)
  · obtain ⟨w0, v, g, p, d, rfl, _⟩ := h
    rfl
  · obtain ⟨w0, v, g, p, d, rfl, pg, few, nm, hd, ni, q⟩ := h
    have hr1 : Room 1 _ := hr.mono (by decide)
    have hr2 : Room 2 _ := hr.mono (by decide)
    refine ⟨_, (pss_cons (ps_if (PW.pt (pw_or (pt_not (pt_val (pe_call OS hr (by rfl) St.m St.F.kp St.b .nil pass0 (pa_cons (pv 2) pa_nil)))) (pw_or1 (pt_cmpR op_notIn_seq (pe_ix ix_tup (pv 2) pe_int (fun _ _ => rfl)) (pe_call ON hr1 (by rfl) N.m N.F.kp N.b .nil pass0 (pa_cons (pv 0) pa_nil)) (by rfl))))) (pss_one (ps_ret pe_bl)) pss_nil)
      (pss_one (ps_ret (pe_and (pe_cmpR op_le (pe_ix ix_tup (pv 2) pe_int (fun _ _ => rfl)) (pv 1) (nomark _)) (pe_one (pe_call OC hr2 (by rfl) Cs.m Cs.F.kp Cs.b .nil pass0 (pa_cons (pv 0) (pa_cons (pe_ix ix_tup (pv 2) pe_int (fun _ _ => rfl)) (pa_cons (pe_ix ix_tup (pv 2) pe_int (fun _ _ => rfl)) pa_nil))))))))), ?_⟩
    refine ⟨v, rfl, v, d, rfl, hd, ni, fun H1 s1 => ⟨_, rfl, ?_⟩⟩
    cases z : storeB d
    · rw [vp_not nm z] at q
      exact iteT (q H1 s1)
    · obtain ⟨n, m, rfl, m0⟩ := store_is z
      obtain ⟨pt, xs, rfl, hT, hds, lx⟩ := tupD hd
      obtain ⟨va, vb, rfl⟩ := two_of lx
      obtain ⟨rfl, rfl⟩ : va = .str n ∧ vb = .int m := by
        cases hds with
        | cons da hds =>
          cases hds with
          | cons db _ =>
            cases da
            cases db
            exact ⟨rfl, rfl⟩
      refine iteF ⟨.ref pt, rfl, pt, _, 0, .str n, rfl, rfl, tupS s1 hT, atI_nat (j := 0) rfl, w0, rfl, w0, g, rfl, pg.same s1, few, fun pn H2 s2 hn => ?_⟩
      have s12 := s1.trans s2
      have ev : vpB g p (.tuple [.str n, .int m]) = ((rowOf g n).isSome && decide (0 ≤ m) && decide (m ≤ p) && canB g n m) := rfl
      rw [ev, decide_eq_true m0, Bool.and_true] at q
      refine ⟨pn, _, rfl, .inr (.inl (.inl hn)), rfl, flat_strs _, ?_⟩
      rw [if_pos rfl, inV_strs]
      refine ⟨_, rfl, ?_⟩
      cases z2 : (rowOf g n).isSome
      · rw [decide_eq_false (fun y => by rw [mem_rows.mp y] at z2; cases z2)]
        rw [z2, Bool.false_and, Bool.false_and] at q
        exact iteT (q H2 s12)
      · rw [decide_eq_true (mem_rows.mpr z2)]
        rw [z2, Bool.true_and] at q
        refine iteF ⟨.ref pt, rfl, pt, _, 1, .int m, rfl, rfl, tupS s12 hT, atI_nat (j := 1) rfl, .int p, rfl, m, p, rfl, rfl, _, rfl, ?_⟩
        cases z3 : decide (m ≤ p)
        · rw [z3, Bool.false_and] at q
          exact iteF (q H2 s12)
        · rw [z3, Bool.true_and] at q
          exact iteT ⟨w0, rfl, .ref pt, rfl, pt, _, 0, .str n, rfl, rfl, tupS s12 hT, atI_nat (j := 0) rfl, .ref pt, rfl, pt, _, 1, .int m, rfl, rfl, tupS s12 hT, atI_nat (j := 1) rfl, w0, g, n, m, rfl, pg.same s12, z2, q H2 s12⟩
end
end Kn


namespace Kn
open PySem PySem.Spec PyProof.Rows L2
section
variable {P : Program} {w : World} {K : PySem.W.Frag} {mg : Str → Option Value} {base : Heap}
theorem ok_lv {f fE fT : Addr} {fd fdE fdT : FuncData} (F : Fun K "leavings" "leavings" (topS 24) f fd) (Fe : Def K mg "fee_of" 17 ["web", "kind"] fE fdE) (OE : FnOk P w K mg base CX0 2 fE fdE ["web", "kind"] (spFe K))
    (Ta : Def K mg "table_of" 18 ["web", "kind"] fT fdT) (OT : FnOk P w K mg base CX0 2 fT fdT ["web", "kind"] (spTa K)) : FnOk P w K mg base CX0 3 f fd ["web", "pairs"] (spLv K) := by
  refine F.ok scLv (fun vs H Q E h => ?_) (fun cdv A outer s H vs Q E hr h => ?_)
  · obtain ⟨w0, q, g, xs, ps, rfl, _⟩ := h
    rfl
  · obtain ⟨w0, q0, g, xs, ps, rfl, pg, G, hT, hps, few, all, q⟩ := h
    refine ⟨_, pss_one (ps_ret (pe_lc2 (wi1 := iTup K (tCall (spTa K) [] E0 (tCons (tVar 0) (tCons (tVar 2) tNil)))) (own := [("name", 2), ("mark", 3), ("kind", 4)]) (vs1 := [4]) (g := gTup K 2 (gCons (gName 2) (gCons (gName 3) gNil))) (g1 := gName 4) (by rfl) scLv.nd (pi_tup (pv 1))
      (blkOk_by (own := [("name", 2), ("mark", 3), ("kind", 4)]) (N := nLv) (sc := defScope (topS 24)) (by decide +kernel)) (by decide)
      (fun _ _ _ _ _ => pg_tup (by rfl) (pgs_cons (pg_name (i := 2) scLv.nd rfl (Or.inl rfl)) (pgs_cons (pg_name (i := 3) scLv.nd rfl (Or.inl rfl)) pgs_nil))) (fun _ _ _ _ _ => pts_nil)
      ?hi1 (fun _ _ _ _ _ => pg_name (i := 4) scLv.nd rfl (Or.inl rfl)) (fun _ _ _ _ _ => pts_nil)
      (fun _ _ _ _ _ => pe_tup (pa_cons (pv 4) (pa_cons (pe_op op_sub (pv 3) (pe_call OE hr (by rfl) Fe.m Fe.F.kp Fe.b .nil pass0 (pa_cons (pv 0) (pa_cons (pv 2) pa_nil)))) pa_nil))))), ?_⟩
    case hi1 => exact fun _ _ _ _ _ => pi_tup (pe_call OT hr (by rfl) Ta.m Ta.F.kp Ta.b .nil pass0 (pa_cons (pv 0) (pa_cons (pv 2) pa_nil)))
    dsimp only [tRet, tTup, tCons, tC, tCB]
    have lx : xs.length = ps.length := by rw [dsLen hps, List.length_map]
    refine ⟨.ref q0, rfl, q0, rfl, ⟨xs, hT⟩, fun D nD => ?_⟩
    refine ⟨fun i m F => m = ps.length - i ∧ i ≤ ps.length ∧ Same H F ∧ ∃ acc, F D = some (.lst acc) ∧ acc.length ≤ 5 * i ∧ PrsAt F acc (lv g (ps.take i)), ⟨_, rfl, Nat.zero_le _, same_new nD, [], upd_same, Nat.zero_le _, .nil⟩, ?_⟩
    rintro i m F ⟨rfl, hi, sm, acc, eD, la, hacc⟩
    have qT := sameDp sm hT
    by_cases lt : i < ps.length
    · have hx : xs[i]? = some (xs[i]'(by omega)) := List.getElem?_eq_getElem (by omega)
      have hs : ps[i]? = some (ps[i]'lt) := List.getElem?_eq_getElem lt
      generalize ps[i]'lt = s0 at hs
      obtain ⟨d0, hd0, pr⟩ := dsAt hps i _ hx
      obtain rfl : dPr s0 = d0 := by
        rw [List.getElem?_map, hs] at hd0
        exact Option.some.inj hd0
      obtain ⟨px, ex, hpx⟩ := pr_seq pr
      obtain ⟨e, he⟩ := Option.isSome_iff_exists.mp (all s0 (List.mem_of_getElem? hs))
      have em := (row_is he).1
      have e5 := G.rows e em
      have el : lvOf g s0 = e.row.map fun k => (k, s0.2 - e.fee) := by
        unfold lvOf
        rw [he]
      refine .inr ⟨⟨xs, _, qT, hx⟩, fun F' => Same H F' ∧ ∃ acc, F' D = some (.lst acc) ∧ acc.length ≤ 5 * (i + 1) ∧ PrsAt F' acc (lv g (ps.take (i + 1))), fun F' z => ⟨ps.length - (i + 1), by omega, rfl, lt, z⟩, fun x F' y => ?_⟩
      obtain ⟨rfl, y⟩ := y
      have ey := y xs qT
      rw [hx] at ey
      cases ey
      refine ⟨px, _, ex, tupS sm hpx, rfl, _, _, rfl, _, _, rfl, rfl, rfl, ?_⟩
      dsimp only [tYes]
      refine iteT ?_
      refine ⟨w0, rfl, .str s0.1, rfl, w0, g, s0.1, e, rfl, pg.same sm, he, fun qe hqe => ⟨qe, rfl, ⟨_, hqe⟩, ?_⟩⟩
      refine ⟨fun j k F1 => k = e.row.length - j ∧ j ≤ e.row.length ∧ Same H F1 ∧ TS F' F1 ∧ ∃ acc, F1 D = some (.lst acc) ∧ acc.length ≤ 5 * i + j ∧ PrsAt F1 acc (lv g (ps.take i) ++ (e.row.take j).map fun k => (k, s0.2 - e.fee)), ?_, ?_⟩
      · exact ⟨_, rfl, Nat.zero_le _, sm, TS.refl _, acc, eD, la, by rw [List.take_zero, List.map_nil, List.append_nil]; exact hacc⟩
      · rintro j k F1 ⟨rfl, hj, s1, u1, acc1, eD1, la1, hacc1⟩
        have qE := tupT u1 hqe
        by_cases lt1 : j < e.row.length
        · have hk : e.row[j]? = some (e.row[j]'lt1) := List.getElem?_eq_getElem lt1
          generalize e.row[j]'lt1 = kn at hk
          have hkv : (e.row.map V.str)[j]? = some (.str kn) := by rw [List.getElem?_map, hk]; rfl
          refine .inr ⟨⟨_, _, qE, hkv⟩, fun F2 => Same H F2 ∧ TS F' F2 ∧ ∃ acc, F2 D = some (.lst acc) ∧ acc.length ≤ 5 * i + (j + 1) ∧ PrsAt F2 acc (lv g (ps.take i) ++ (e.row.take (j + 1)).map fun k => (k, s0.2 - e.fee)), fun F2 z => ⟨e.row.length - (j + 1), by omega, rfl, lt1, z⟩, fun x F2 y => ?_⟩
          obtain ⟨rfl, y⟩ := y
          have ey := y _ qE
          rw [hkv] at ey
          cases ey
          refine ⟨rfl, ?_⟩
          refine iteT ?_
          refine ⟨.str kn, rfl, .int s0.2, rfl, w0, rfl, .str s0.1, rfl, w0, g, s0.1, e, rfl, pg.same s1, he, s0.2, e.fee, rfl, rfl, ⟨show 2 ≤ sizeLine by decide, fun t nt => ?_⟩⟩
          have ne : D ≠ t := ne_of_none eD1 nt
          have t1 : TS F2 (upd F2 t (.tup [.str kn, .int (s0.2 - e.fee)])) := ts_same (same_new nt)
          have t2 : TS (upd F2 t (.tup [.str kn, .int (s0.2 - e.fee)])) (upd (upd F2 t (.tup [.str kn, .int (s0.2 - e.fee)])) D (.lst (acc1 ++ [.ref t]))) := ts_lst ((upd_ne ne).trans eD1)
          refine ⟨acc1, (upd_ne ne).trans eD1, Nat.lt_of_le_of_lt (show acc1.length ≤ 1000000 by omega) (by decide), putS (putS s1 (s1.free nt)) nD, u1.trans (t1.trans t2), acc1 ++ [.ref t], upd_same, by rw [List.length_append]; show acc1.length + 1 ≤ _; omega, ?_⟩
          rw [List.take_add_one, hk, List.map_append, ← List.append_assoc]
          exact PrsAt.app ((hacc1.ts t1).ts t2) (.cons ⟨t, rfl, t2.1 _ _ upd_same⟩ .nil)
        · obtain rfl : j = e.row.length := by omega
          refine .inl ⟨⟨_, qE, by rw [List.length_map]; exact Nat.le_refl _⟩, s1, acc1, eD1, by omega, ?_⟩
          rw [lv_snoc hs, el]
          rw [List.take_length] at hacc1
          exact hacc1
    · obtain rfl : i = ps.length := by omega
      refine .inl ⟨⟨xs, qT, by omega⟩, ?_⟩
      rw [List.take_length] at hacc
      exact q D acc F sm eD hacc (by omega)
end
end Kn


/-! Kn: a def that gets the error which is being handled. -/
namespace Kn
open PySem PySem.Spec PyProof.Rows L2
abbrev ESp := Addr → Value → Option Addr → Sp
section
variable (P : Program) (w : World) (K : PySem.W.Frag) (mg : Str → Option Value) (base : Heap)
structure Handed (k : Nat) (f : Addr) (fd : FuncData) (ps : List Str) (sp : ESp) : Prop where
  many : ∀ a c d vs H Q E, sp a c d vs H Q E → vs.length = ps.length
  goes : ∀ (A : Around) (fr : List Env) (s : Shared) (H : Hp) (g : Args) (us : List Value) (vs : List V) (Q : VK) (E : XK) (p : Addr × Obj) (c : Value) (d : Option Addr), L2H.RoomH k A → A.handled = some (.ref p.1) → Zc c d p.2 → (∃ v, p.2.data = .fields v) →
    L2H.PinOk fr H s p → Env0 P w K mg base A fr s H → BindsTo s fd g (ps.zip us) → Vals vs us → sp p.1 c d vs H Q E → codeAny (model P w) A (.call (.ref f) g) (CR CX0 fr P w H s Q E) s
end
section
variable {P : Program} {w : World} {K : PySem.W.Frag} {mg : Str → Option Value} {base : Heap} {k : Nat} {f : Addr} {fd : FuncData} {ps N : List Str} {sp : ESp} {x qual : Str} {st : Stmt}
theorem mark_same {A : Around} {env : Env} {a : Addr} (h : A.handled = some (.ref a)) : (A.deeper env).mark (some (.ref a)) = A.deeper env := by
  obtain ⟨h1, d, fr, g, u⟩ := A
  cases h
  rfl
theorem Handed.body (F : Fun K x qual st f fd) (S : FnScope N ps (defScope st)) (many : ∀ a c d vs H Q E, sp a c d vs H Q E → vs.length = ps.length)
    (hb : ∀ (cdv : Value) (A : Around) (fr : List Env) (s : Shared) (H : Hp) (vs : List V) (Q : VK) (E : XK) (p : Addr × Obj) (c : Value) (d : Option Addr), Zc c d p.2 → (∃ v, p.2.data = .fields v) → L2H.RoomH k (A.deeper (envOfC qual (defScope st) s.heap.objs.size f cdv)) → sp p.1 c d vs H Q E →
      ∃ t, PSs ((cxOf CX0 P w K mg base N qual (defScope st) f cdv A fr s H E).suite p.1 [(p.1, p.2)]) (defBody st) t ∧ t { nx := fun _ H' => Q .non H', rt := Q } (start N vs) H) :
    Handed P w K mg base (k + 1) f fd ps sp := by
  obtain ⟨oc, od, kV, doc, pm, an, cdv, ct, osl, rfl, look, cdOk⟩ := F.ex
  refine ⟨many, fun A fr s H g us vs Q E p c d room hot hz hf pin z bound rv told => ?_⟩
  have held : ∀ b o, base.get? b = some o → s.heap.get? b = some o := fun b o y => (z.bs b o y).1
  have KS : K.In s.heap := z.mod.kin.keeps held
  have parL : ∀ y ∈ ps.zip us, (defScope st).names.lookup y.1 = some .local ∨ ((defScope st).names.lookup y.1 = some .cell ∧ ((cellsFrom (s.heap.objs.size + 1) (defScope st).names []).lookup y.1).isSome = true) := by
    rintro ⟨n, v⟩ hy
    cases S.par n (List.of_mem_zip hy).1 with
    | inl q => exact .inl q
    | inr q => exact .inr ⟨q, PySem.W.cellsFrom_some _ _ _ (.inl q)⟩
  refine codeAny_call_function room.depth (KS _ _ look) rfl S.co S.gen rfl (PySem.W.codeRec_of KS cdOk) (bound _ _ _ _ ?_)
  refine wpAny_newFunctionEnv_cells S.kind parL ?_
  rintro env rfl s1 y
  refine ⟨(z.mod.nolimit.keeps held).keeps y.toInCall.keep, codeAny_func ?_⟩
  obtain ⟨t, ht, ends⟩ := hb cdv A fr s H vs Q E p c d hz hf (room.deeper _) told
  have I := L2H.inv_startH (CX := CX0) (P := P) (mg := mg) (E := E) S pin z (many _ _ _ _ _ _ _ told) rv y
  have ec : (cxOf CX0 P w K mg base N qual (defScope st) f cdv A fr s H E).suite p.1 [(p.1, p.2)] = (L2H.cxH CX0 P w K mg base N qual (defScope st) f cdv A fr s H E p).nox := by
    have em := mark_same (env := envOfC qual (defScope st) s.heap.objs.size f cdv) hot
    show ({ cxOf CX0 P w K mg base N qual (defScope st) f cdv A fr s H E with A := (A.deeper (envOfC qual (defScope st) s.heap.objs.size f cdv)).mark (some (.ref p.1)), calm := false, pn := [(p.1, p.2)], xe := fun _ _ => False } : Cx) = _
    rw [em]
    rfl
  rw [ec] at ht
  refine wpAny_mono (ht.nox.run [] s1 (start N vs) H _ I ends) ?_ (fun _ _ q => q)
  intro fl s2 hs
  cases fl with
  | ret u => obtain ⟨v, σ2, H2, J, r2, q⟩ := hs; exact ⟨v, H2, J.os, J.bare, J.base, J.hok, r2, q⟩
  | next => obtain ⟨σ2, H2, J, q⟩ := hs; exact ⟨V.non, H2, J.os, J.bare, J.base, J.hok, rfl, q⟩
  | brk => obtain ⟨_, _, _, q⟩ := hs; exact q.elim
  | cont => obtain ⟨_, _, _, q⟩ := hs; exact q.elim
end
section
variable {X : Cx} {k : Nat} {f : Addr} {fd : FuncData} {ps : List Str} {sp : ESp} {x : Str} {p pos : Pos} {e : Expr} {es : List Expr} {t : TA} {a : Addr} {oe : Obj} {c : Value} {d : Option Addr} {pn : List (Addr × Obj)}
/-- f(err, ..) within the suite that handles err -/
theorem pe_hand (F : Handed X.prog X.w X.K X.mg X.base k f fd ps sp) (hr : L2H.RoomH k X.A) (hz : Zc c d oe) (hf : ∃ v, oe.data = .fields v) (hg : Gl X x) (hm : X.mg x = some (.ref f)) (hk : PySem.W.keepIn X.K (.ref f) = true) (hb : Binds X.K fd ps [])
    (ha : PA (X.suite a ((a, oe) :: pn)) (e :: es) t) (hdb : (x == ("__debug__" : Str)) = false := by decide) (he : starEach (e :: es) X.env = (false, eval e X.env) :: starEach es X.env := by rfl) (hpl : (backTo pos (starEach es X.env)).any (·.1) = false := by rfl) :
    PE (X.suite a ((a, oe) :: pn)) (.Call (.Name x p) (e :: es) [] pos) (tCall (sp a c d) [] E0 t) := by
  refine ⟨fun pins s σ H Q I told => wpAny_Call_Name_kw (ld_glob I hg hm ?_ hdb)⟩
  refine PySem.W.callWith_K (h₀ := X.base) I.ok.mod.kin hk (thn (ha.run pos pins s σ H _ I told) ?_) he hpl
  rintro us s1 ⟨vs, H1, I1, rv, q⟩
  refine ⟨I1.kIn, ?_⟩
  have q : sp a c d (vs ++ []) H1 Q E0 := q
  rw [List.append_nil] at q
  have hl : (us ++ []).length = ps.length := by rw [List.append_nil, ← rv.length]; exact F.many _ _ _ _ _ _ _ q
  have hb1 := hb s1 us I1.kIn hl
  rw [List.append_nil] at hb1
  have at_ := I1.pin (a, oe) (List.mem_append_left _ List.mem_cons_self)
  have pin : L2H.PinOk X.stack H1 s1 (a, oe) := by
    refine ⟨at_.1, at_.2.1, fun hm => ?_, at_.2.2.2.2⟩
    rcases List.mem_cons.mp (I1.stkSub a hm) with z | z
    · exact at_.2.2.1 z
    · exact at_.2.2.2.1 z
  refine wpAny_call (codeAny_mono (F.goes (X.A.mark (some (.ref a))) X.stack s1 H1 ⟨us, []⟩ us vs Q E0 (a, oe) c d ⟨hr.dp, hr.un⟩ rfl hz hf pin I1.env0 hb1 rv q) ?_)
  intro r s2 out
  cases r with
  | error _ => exact False.elim out
  | ok fl =>
    cases fl with
    | ret u => exact I1.after out
    | next => exact False.elim out
    | brk => exact False.elim out
    | cont => exact False.elim out
end
end Kn


/-! Kn: isinstance of a handled error with fields; how many of a list's bools are k. -/
namespace Kn
open PySem PySem.Spec PyProof.Rows L2
/-- what isinstance reads off an error's class -/
structure IsC (K : PySem.W.Frag) (D : Addr) : Prop where
  c : (PySem.W.clsIn K D).isSome = true
  ga : PySem.W.findIn K (.ref D) "__getattribute__" = some (some (.builtin "BaseException.__getattribute__"))
  gg : PySem.W.findIn K (.ref D) "__getattr__" = some none
  ex : PySem.W.subIn K (.ref D) (.type "BaseException") = some true
  ha : PySem.W.findIn K (.ref D) "__class__" = some (some (.builtin "object.__class__"))
  hn : PySem.W.specialIn K (.builtin "object.__class__") "__get__" = some (some (.builtin "getset_descriptor.__get__"))
  ht : PySem.W.takesIn K (.builtin "object.__class__") = some true
  hm : PySem.W.mroIn K D (.type "object") = some true
def rIsF (K : PySem.W.Frag) (D : Addr) (d : Option Addr) (a : Addr) : List V → Hp → VK → Prop := fun xs H Q =>
  ∃ (c : V) (cv : Value) (b : Bool) (dd : Addr) (fs : List (Str × V)), xs = [.ref a, c] ∧ (∀ u, RelV c u → u = cv) ∧ PySem.W.kitOne K (.ref D) cv = some b ∧ d = some dd ∧ H dd = some (.xd fs) ∧ Q (.bl b) H
section
variable {X : Cx}
theorem call_isF {a D : Addr} {d : Option Addr} {oe : Obj} {pn : List (Addr × Obj)} (C : IsC X.K D) (hz : Zc (.ref D) d oe) (hf : ∃ v, oe.data = .fields v) : CallR (X.suite a ((a, oe) :: pn)) (.builtin "isinstance") (rIsF X.K D d a) := by
  rintro pins s σ H xs us Q I rv ⟨c, cv, b, dd, fs, rfl, only, kit, rfl, hd, q⟩
  cases rv with
  | cons r1 rest =>
    cases rest with
    | cons r2 rest =>
      cases rest
      cases r1
      cases only _ r2
      have at_ := (I.pin (a, oe) (List.mem_append_left _ List.mem_cons_self)).1
      obtain ⟨v, dv⟩ := hf
      obtain ⟨m, nsd, _⟩ := (I.hok dd _ hd : ∃ m, s.heap.Ns1 dd m ∧ ∀ f, RelO (fs.lookup f) (m f))
      obtain ⟨od, hod, _⟩ := lookIn_ns nsd
      have inst : PySem.W.InstAt s.heap a oe D (some od) := by
        refine ⟨at_, hz.1, ?_, ?_⟩
        · unfold PySem.W.notCls
          rw [dv] <;> rfl
        · rw [hz.2]
          exact hod
      exact PySem.W.kia_one (PySem.W.kitx_exc C.c C.ga C.gg C.ex C.ha C.hn C.ht C.hm) I.kIn inst kit (fun z => nomatch z) fun tk => ⟨.bl b, H, I.kept (t' := tk) fun _ _ z => z, rfl, q⟩
def rCntB (K : PySem.W.Frag) : V → List V → Hp → VK → Prop := fun x xs H Q => ∃ (p : Addr) (bs : List Bool) (k : Bool), x = .ref p ∧ xs = [.bl k] ∧ SqL K H p (bs.map V.bl) ∧ Q (.int (bs.count k : Nat)) H
theorem bools_of {bs : List Bool} {its : List Value} (h : Vals (bs.map V.bl) its) : its = bs.map Value.bool := by
  induction bs generalizing its with
  | nil => cases h; rfl
  | cons b r ih =>
    cases h with
    | cons r1 rr =>
      cases r1
      rw [ih rr]
      rfl
theorem mt_bcount : MtR X "list.count" (rCntB X.K) := by
  rintro pins s σ H x xs v us Q I rx rxs ⟨p, bs, k, rfl, rfl, hs, q⟩
  cases rx
  obtain ⟨u, rfl, ru⟩ := rxs.one
  cases ru
  obtain ⟨its, rv, ⟨⟨cls, dd, data, sl⟩, n, ho, hc, hdn, hd⟩, hlen⟩ := I.list hs
  dsimp only at hc hd
  subst hc hd
  have e := bools_of rv
  have ec : ∀ bs : List Bool, (bs.map Value.bool).countP (isBoolOf k) = bs.count k := fun bs => by
    induction bs with
    | nil => rfl
    | cons b r ih =>
      rw [List.map_cons, List.countP_cons, List.count_cons, ih]
      rfl
  refine call_meets PySem.F.slot_list_count ⟨_, ho, rfl⟩ PySem.F.entry_list_count (PySem.F.args_list_count_2 _ _) (PySem.SeqAt.list_countAt p its.toArray n dd sl (.bool k) (isBoolOf k)) ⟨ho, fun y hy => ?_, ?_⟩
  · have hy : y ∈ its := by simpa using hy
    rw [e] at hy
    obtain ⟨b, _, rfl⟩ := List.mem_map.mp hy
    exact PySem.SeqAt.EqAt.bool_bool b k
  · refine ⟨.int (bs.count k : Nat), H, I.tok _, ⟨s.toks, ?_⟩, q⟩
    show Value.int ((its.toArray.toList.countP (isBoolOf k) : Nat) : Int) s.toks = _
    have e2 : its.toArray.toList = bs.map Value.bool := e
    rw [e2, ec]
theorem pt_off {e : Expr} : PT X e (fun _ _ _ => False) := ⟨fun _ _ _ _ _ _ h => h.elim⟩
end
end Kn


namespace Kn
open PySem PySem.Spec PyProof.Rows L2
abbrev nCp : List Str := ["web", "marks", "thing", "k", "pair", "first", "led", "row"]
theorem scCp : FnScope nCp ["web", "marks", "thing"] (defScope (topS 28)) := ⟨rfl, rfl, rfl, by decide +kernel, rfl, by decide +kernel, by decide +kernel⟩
abbrev nIp : List Str := ["web", "marks", "thing"]
theorem scIp : FnScope nIp ["web", "marks", "thing"] (defScope (topS 29)) := ⟨rfl, rfl, rfl, by decide +kernel, rfl, by decide +kernel, by decide +kernel⟩
abbrev nPl : List Str := ["web", "marks", "thing"]
def initS : Stmt := (C8.clsBody (topS 4)).getD 0 (.Pass ⟨0, 0, 0, 0⟩)
abbrev nInit : List Str := ["self", "word", "at"]
theorem scInit : FnScope nInit ["self", "word", "at"] (defScope initS) := ⟨rfl, rfl, rfl, by decide +kernel, rfl, by decide +kernel, by decide +kernel⟩
def spInit (K : PySem.W.Frag) (D : Addr) : Sp := fun vs H Q _ => ∃ (a : Addr) (x y : V), vs = [.ref a, x, y] ∧ H a = some (exo a D none) ∧
  ∀ dx, H dx = none → dx ≠ a → Q .non (upd (upd (upd H dx (exd dx [("word", x)])) a (exo a D (some dx))) dx (exd dx [("at", y), ("word", x)]))
structure ErrM (K : PySem.W.Frag) (mg : Str → Option Value) (D fI : Addr) (fdI : FuncData) : Prop where
  noW : PySem.W.findIn K (.ref D) "word" = some none
  noA : PySem.W.findIn K (.ref D) "at" = some none
  ex : PySem.W.exmOne K (.ref D) (.ref D) = some true
  x : OexC K D
  F : Fun K "__init__" "InvalidPaper.__init__" initS fI fdI
  b : Binds K fdI ["self", "word", "at"] []
  i : PySem.W.findIn K (.ref D) "__init__" = some (some (.ref fI))
  t : PySem.W.typeIn K (.ref fI) = some (.type "function")
  m : mg "InvalidPaper" = some (.ref D)
def toPr : PyData → Option (Str × Int)
  | .tuple [.str n, .int m] => some (n, m)
  | _ => none
def goodAt (g : Pg) (p : Int) (ds : List PyData) (k : Nat) : Bool := vpB g p (ds.getD k .none) && (decide (k = 0) || PySem.W.dataLt (ds.getD (k - 1) .none) (ds.getD k .none))
def ledP (g : Pg) (a : Str × Int) (ps : List (Str × Int)) : Bool := ps.all fun s => decide (s = a) || decide (s ∈ lv g ps)
def firstP (g : Pg) (p : Int) (ps : List (Str × Int)) : Bool := !canB g g.asks p || decide ((g.asks, p) ∈ ps)
/-- whether any data is a plan -/
def planD (g : Pg) (p : Int) : PyData → Bool
  | .tuple ds => (List.range ds.length).all (goodAt g p ds) && (ledP g (g.asks, p) (ds.filterMap toPr) && firstP g p (ds.filterMap toPr))
  | _ => false
theorem vp_pr {g : Pg} {p : Int} {d : PyData} (h : vpB g p d = true) : ∃ s, toPr d = some s ∧ d = dPr s ∧ (rowOf g s.1).isSome = true ∧ 0 ≤ s.2 ∧ s.2 ≤ p ∧ canB g s.1 s.2 = true := by
  match d, h with
  | .tuple [.str n, .int m], h =>
    have h : ((rowOf g n).isSome && decide (0 ≤ m) && decide (m ≤ p) && canB g n m) = true := h
    rw [Bool.and_eq_true, Bool.and_eq_true, Bool.and_eq_true] at h
    exact ⟨(n, m), rfl, rfl, h.1.1.1, of_decide_eq_true h.1.1.2, of_decide_eq_true h.1.2, h.2⟩
theorem prs_of {g : Pg} {p : Int} : ∀ {ds : List PyData}, (∀ d ∈ ds, vpB g p d = true) → ds = (ds.filterMap toPr).map dPr ∧ ∀ s ∈ ds.filterMap toPr, (rowOf g s.1).isSome = true
  | [], _ => ⟨rfl, fun _ h => by cases h⟩
  | d :: ds, h => by
    obtain ⟨s, e, ed, r, _⟩ := vp_pr (h d (List.mem_cons_self ..))
    obtain ⟨i1, i2⟩ := prs_of (ds := ds) fun x hx => h x (List.mem_cons_of_mem _ hx)
    rw [List.filterMap_cons_some e]
    refine ⟨?_, fun x hx => ?_⟩
    · rw [List.map_cons, ← i1, ← ed]
    · rcases List.mem_cons.mp hx with rfl | hx
      · exact r
      · exact i2 x hx
theorem all_ok {g : Pg} {p : Int} {ds : List PyData} (h : ∀ k, k < ds.length → goodAt g p ds k = true) : ∀ d ∈ ds, vpB g p d = true := fun d hd => by
  obtain ⟨k, hk, e⟩ := List.mem_iff_getElem.mp hd
  have z := h k hk
  unfold goodAt at z
  rw [Bool.and_eq_true, List.getD_eq_getElem?_getD, List.getElem?_eq_getElem hk, e] at z
  exact z.1
theorem name_ascii {x : Str} (h : nameB (.str x) = true) : goodD (.str x) = true := by
  have h : (decide (1 ≤ x.length) && decide (x.length ≤ 8) && lowB x) = true := h
  rw [Bool.and_eq_true] at h
  have z := List.all_eq_true.mp h.2
  refine List.all_eq_true.mpr fun c hc => ?_
  have y := z c hc
  exact decide_eq_true (by have := of_decide_eq_true y; omega)
theorem pr_good {n : Str} {m : Int} (h : nameB (.str n) = true) (b : m.natAbs < 1000) : goodD (dPr (n, m)) = true := by
  show (goodD (.str n) && (goodD (.int m) && true)) = true
  rw [name_ascii h]
  have z : goodD (.int m) = true := decide_eq_true (Nat.lt_of_lt_of_le b (by decide))
  rw [z]
  rfl
theorem pr_eqv (s t : Str × Int) : PyData.eqv (dPr s) (dPr t) = decide (s = t) := by
  have e : PyData.eqv (dPr s) (dPr t) = ((s.1 == t.1) && ((s.2 == t.2) && true)) := rfl
  rw [e, Bool.and_true]
  by_cases h1 : s.1 = t.1
  · by_cases h2 : s.2 = t.2
    · rw [beq_iff_eq.mpr h1, beq_iff_eq.mpr h2, decide_eq_true (Prod.ext h1 h2)]
      rfl
    · rw [beq_eq_false_iff_ne.mpr h2, Bool.and_false, decide_eq_false (fun z => h2 (by rw [z]))]
  · rw [beq_eq_false_iff_ne.mpr h1, Bool.false_and, decide_eq_false (fun z => h1 (by rw [z]))]
theorem any_pr {ps : List (Str × Int)} {s : Str × Int} : ((ps.map dPr).any fun z => PyData.eqv z (dPr s)) = decide (s ∈ ps) := by
  rw [List.any_map]
  by_cases h : s ∈ ps
  · rw [decide_eq_true h, List.any_eq_true]
    exact ⟨s, h, by show PyData.eqv (dPr s) (dPr s) = true; rw [pr_eqv, decide_eq_true rfl]⟩
  · rw [decide_eq_false h, List.any_eq_false]
    intro x hx z
    have z : PyData.eqv (dPr x) (dPr s) = true := z
    rw [pr_eqv] at z
    exact h (of_decide_eq_true z ▸ hx)
def spCp (K : PySem.W.Frag) (D : Addr) : Sp := fun vs H Q E => ∃ (w v : V) (g : Pg) (p : Int) (d : PyData), vs = [w, .int p, v] ∧ PgAt K H w g ∧ GW g ∧ p.natAbs < 1000 ∧ Dp K H v d ∧ Nice d ∧
  (planD g p d = true → ∀ H', Same H H' → Q .non H') ∧ (planD g p d = false → ∀ (dx : Addr) (H' : Hp), Same H H' → E (.ref D) (some dx) H')
section
variable {P : Program} {w : World} {K : PySem.W.Frag} {mg : Str → Option Value} {base : Heap}
theorem ok_init {f D : Addr} {fd : FuncData} (T : ErrM K mg D f fd) : FnOk P w K mg base CX0 1 f fd ["self", "word", "at"] (spInit K D) := by
  refine T.F.ok scInit (fun vs H Q E h => ?_) (fun cdv A outer s H vs Q E hr h => ?_)
  · obtain ⟨a, x, y, rfl, _⟩ := h
    rfl
  · obtain ⟨a, x, y, rfl, ha, q⟩ := h
    refine ⟨_, pss_cons (ps_ost (pv 0) (pv 1)) (pss_one (ps_ost (pv 0) (pv 2))), ?_⟩
    refine ⟨x, rfl, .ref a, rfl, a, D, rfl, T.x, T.noW, .inl ⟨ha, fun dx nd ne => ?_⟩⟩
    refine ⟨y, rfl, .ref a, rfl, a, D, rfl, T.x, T.noA, .inr ⟨dx, [("word", x)], upd_same, (by rw [upd_ne ne, upd_same]), (show 1 ≤ 900 by decide), q dx nd ne⟩⟩
theorem made_raise {H : Hp} {a dx : Addr} {o1 o2 o3 o4 : HO} {fs : List (Str × V)} (ha : H a = none) (ne : dx ≠ a) : upd (del (upd (upd (upd (upd H a o1) dx o2) a o3) dx o4) a) dx (.xd fs) = upd H dx (.xd fs) := by
  funext b
  by_cases h1 : b = dx
  · rw [h1, upd_same, upd_same]
  · rw [upd_ne h1, upd_ne h1]
    by_cases h2 : b = a
    · rw [h2, del_same, ha]
    · rw [del_ne h2, upd_ne h1, upd_ne h2, upd_ne h1, upd_ne h2]
theorem raises {D : Addr} {tt : TE} {σ : L2.St} {H G : Hp} {E : XK} {x : Str} {v : V} (hv : ∀ R : VK, R v G → tt σ G R) (sm : Same H G) (q : ∀ (dx : Addr) (H' : Hp), Same H H' → E (.ref D) (some dx) H') :
    tMkO D (spInit K D) [] (tCons (tC (.str x)) (tCons tt tNil)) σ G fun c d H' => E c d H' := by
  refine hv _ ⟨(show 2 ≤ 1000 by decide), fun a ha => ⟨a, .str x, v, rfl, upd_same, fun dx nd ne => ⟨rfl, dx, _, ?_, upd_same, ?_, ?_⟩⟩⟩
  · rw [upd_ne ne.symm, upd_same]
  · rw [upd_ne ne] at nd
    exact nd
  · rw [upd_ne ne] at nd
    show E _ _ _
    rw [made_raise ha ne]
    exact q dx _ (putS sm (sm.free nd))
theorem ok_cp {f fP fL fC fI D : Addr} {fd fdP fdL fdC fdI : FuncData} (F : Fun K "check_plan" "check_plan" (topS 28) f fd) (T : ErrM K mg D fI fdI)
    (Po : Def K mg "is_pair_of" 23 ["web", "marks", "thing"] fP fdP) (OP : FnOk P w K mg base CX0 4 fP fdP ["web", "marks", "thing"] (spPo K))
    (Lv : Def K mg "leavings" 24 ["web", "pairs"] fL fdL) (OL : FnOk P w K mg base CX0 3 fL fdL ["web", "pairs"] (spLv K))
    (Cs : Def K mg "can_send" 19 ["web", "kind", "mark"] fC fdC) (OC : FnOk P w K mg base CX0 2 fC fdC ["web", "kind", "mark"] (spCs K))
    (ms : mg "isinstance" = none) (mt : mg "tuple" = none) (me : mg "enumerate" = none) : FnOk P w K mg base (L2.CX P w) 5 f fd ["web", "marks", "thing"] (spCp K D) := by
  have GI : FnOk P w K mg base CX0 1 fI fdI ["self", "word", "at"] (spInit K D) := ok_init T
  refine F.okX scCp (fun vs H Q E h => ?_) (fun cdv A outer s H vs Q E hr h => ?_)
  · obtain ⟨w0, v, g, p, d, rfl, _⟩ := h
    rfl
  · obtain ⟨w0, v, g, p, d, rfl, pg, gw, pb, hd, ni, qy, qn⟩ := h
    have hr1 : Room 1 _ := hr.mono (by decide)
    have hr2 : Room 2 _ := hr.mono (by decide)
    have hr3 : Room 3 _ := hr.mono (by decide)
    have hu := hr.units
    have hu1 := Nat.lt_of_le_of_lt (Nat.add_le_add_left (show 1 ≤ 64 by decide) _) hu
    have hu64 := hu
    have hu65 := hr.units
    refine ⟨_, (pss_cons (ps_if (pt_not (pt_val (pe_callB call_isi (by rfl) ms boot_isinstance (pa_cons (pv 2) (pa_cons (pe_bltn (v := .ty "tuple") (by rfl) mt (by decide +kernel) rfl) pa_nil))))) (pss_one (ps_raise rfl (takes_of rfl rfl rfl rfl) (pmk_oex T.x T.i T.t GI hr2 T.b .nil pass0 rfl T.m (pa_cons pe_str (pa_cons (pe_un un_neg pe_int) pa_nil))))) pss_nil)
      (pss_cons (ps_for (passes_of rfl) rfl (En.pi_enT (by rfl) me (pa_cons (pv 2) pa_nil)) (pg_tup (by rfl) (pgs_cons (pg_name (i := 3) scCp.nd rfl (.inl rfl)) (pgs_cons (pg_name (i := 4) scCp.nd rfl (.inl rfl)) pgs_nil))) (pss_one (ps_if (PW.pt (pw_or (pt_not (pt_val (pe_call OP hr (by rfl) Po.m Po.F.kp Po.b .nil pass0 (pa_cons (pv 0) (pa_cons (pv 1) (pa_cons (pv 4) pa_nil)))))) (pw_or1 (PW.pt (pw_and (pt_cmpR op_gt (pv 3) pe_int (nomark _)) (pw_and1 (pt_cmpR (op_leD hu64) (pv 4) (pe_ix ix_tup (pv 2) (pe_op op_sub (pv 3) pe_int) (fun _ _ => rfl)) (nomark _)))))))) (pss_one (ps_raise rfl (takes_of rfl rfl rfl rfl) (pmk_oex T.x T.i T.t GI hr2 T.b .nil pass0 rfl T.m (pa_cons pe_str (pa_cons (pv 3) pa_nil))))) pss_nil)))
      (pss_cons (ps_set (i := 5) scCp.nd rfl (.inl rfl) (pe_tup (pa_cons (pe_ix ix_tup (pv 0) pe_int (fun _ _ => rfl)) (pa_cons (pv 1) pa_nil))))
      (pss_cons (ps_setDcT (i := 6) hu1 (own := [("row", 7)]) (g := gName 7) (by rfl) scCp.nd rfl rfl (swD_true rfl rfl rfl (by decide +kernel)) (pi_list (pe_call OL hr3 (by rfl) Lv.m Lv.F.kp Lv.b .nil pass0 (pa_cons (pv 0) (pa_cons (pv 2) pa_nil)))) (blkOk_by (own := [("row", 7)]) (N := nCp) (sc := defScope (topS 28)) (by decide +kernel)) (fun _ _ _ _ _ => pg_name (i := 7) scCp.nd rfl (Or.inl rfl)) (fun _ _ _ _ _ => pts_nil) (fun _ _ _ _ _ => (pv 7)) (fun _ _ _ _ _ => pe_bl))
      (pss_cons (ps_for (passes_of rfl) rfl (En.pi_enT (by rfl) me (pa_cons (pv 2) pa_nil)) (pg_tup (by rfl) (pgs_cons (pg_name (i := 3) scCp.nd rfl (.inl rfl)) (pgs_cons (pg_name (i := 4) scCp.nd rfl (.inl rfl)) pgs_nil))) (pss_one (ps_if (PW.pt (pw_and (pt_cmpR (op_neD hu64) (pv 4) (pv 5) (nomark _)) (pw_and1 (pt_cmpR (op_notInK hu1) (pv 4) (pv 6) (by rfl))))) (pss_one (ps_raise rfl (takes_of rfl rfl rfl rfl) (pmk_oex T.x T.i T.t GI hr2 T.b .nil pass0 rfl T.m (pa_cons pe_str (pa_cons (pv 3) pa_nil))))) pss_nil)))
      (pss_one (ps_if (PW.pt (pw_and (pt_val (pe_call OC hr2 (by rfl) Cs.m Cs.F.kp Cs.b .nil pass0 (pa_cons (pv 0) (pa_cons (pe_ix ix_tup (pv 0) pe_int (fun _ _ => rfl)) (pa_cons (pv 1) pa_nil))))) (pw_and1 (pt_cmpR (op_notInTD hu65) (pv 5) (pv 2) (by rfl))))) (pss_one (ps_raise rfl (takes_of rfl rfl rfl rfl) (pmk_oex T.x T.i T.t GI hr2 T.b .nil pass0 rfl T.m (pa_cons pe_str (pa_cons (pe_un un_neg pe_int) pa_nil))))) pss_nil))))))), ?_⟩
    refine ⟨v, rfl, v, .ty "tuple", _, _, _, rfl, .ty "tuple", ty_of hd, kit_tup, ?_⟩
    by_cases tup : ∃ ds, d = .tuple ds
    · obtain ⟨ds, rfl⟩ := tup
      obtain ⟨pt, xs, rfl, hT, hds, lx⟩ := tupD hd
      have few := ni.len
      refine ⟨true, rfl, iteF ?_⟩
      refine ⟨.ref pt, rfl, pt, xs, rfl, hT, for_it En.walk_enT (fun i σ G => ∃ y3 y4, σ = [some w0, some (.int p), some (.ref pt), y3, y4, none, none, none] ∧ Same H G ∧ ∀ k, k < i → goodAt g p ds k = true) ⟨none, none, rfl, Same.refl H, fun k hk => absurd hk (Nat.not_lt_zero k)⟩ (fun i σ G _ ⟨_, _, _, s, _⟩ => tupS s hT) ?_ ?_⟩
      · rintro i x σ G G' hi ⟨y3, y4, rfl, sG, old⟩ ⟨T0, k, u, rfl, nT, rfl, hk', hv⟩
        obtain rfl : V.int (i : Nat) = k := Option.some.inj hk'
        obtain ⟨d0, hdi, dp⟩ := dsAt hds i u hv
        have hi' : i < ds.length := by omega
        have nid := ni.get hdi
        have gd : ds.getD i .none = d0 := getD_of hdi
        have sN := putS (o := .tup [V.int (i : Nat), u]) sG (sG.free nT)
        refine ⟨T0, _, rfl, .inl (.inl upd_same), rfl, _, _, rfl, _, _, rfl, rfl, ?_⟩
        generalize upd G T0 (.tup [V.int (i : Nat), u]) = G1 at sN ⊢
        have fail : goodAt g p ds i = false → planD g p (.tuple ds) = false := fun z => by
          have e : planD g p (.tuple ds) = ((List.range ds.length).all (goodAt g p ds) && (ledP g (g.asks, p) (ds.filterMap toPr) && firstP g p (ds.filterMap toPr))) := rfl
          rw [e, List.all_eq_false.mpr ⟨i, List.mem_range.mpr hi', by rw [z]; exact Bool.false_ne_true⟩, Bool.false_and]
        refine ⟨w0, rfl, .int p, rfl, u, rfl, w0, u, g, p, d0, rfl, pg.same sN, by have := gw.few; omega, gw.nm, dKeep sN dp, nid, fun H2 s2 => ?_⟩
        have sN2 := sN.trans s2
        cases zv : vpB g p d0
        · have z : goodAt g p ds i = false := by
            unfold goodAt
            rw [gd, zv, Bool.false_and]
          exact ⟨false, rfl, iteT (raises (v := .int (i : Nat)) (fun R r => ⟨_, rfl, r⟩) sN2 (qn (fail z)))⟩
        · refine ⟨true, rfl, iteF ⟨_, rfl, (i : Nat), 0, rfl, rfl, _, rfl, ?_⟩⟩
          by_cases i0 : i = 0
          · rw [decide_eq_false (show ¬ (0 : Int) < (i : Nat) by omega)]
            refine iteF ⟨_, _, rfl, sN2, fun k hk => ?_⟩
            rcases Nat.lt_succ_iff_lt_or_eq.mp hk with z | rfl
            · exact old k z
            · unfold goodAt
              rw [gd, zv, i0]
              rfl
          · rw [decide_eq_true (show (0 : Int) < (i : Nat) by omega)]
            refine iteT ?_
            have hp : ds[i - 1]? = some (ds[i - 1]'(by omega)) := List.getElem?_eq_getElem (by omega)
            have hxp : xs[i - 1]? = some (xs[i - 1]'(by omega)) := List.getElem?_eq_getElem (by omega)
            obtain ⟨d1, hd1, dp1⟩ := dsAt hds (i - 1) _ hxp
            have gd1 : ds.getD (i - 1) .none = d1 := getD_of hd1
            have zo : vpB g p d1 = true := by
              have y := old (i - 1) (by omega)
              unfold goodAt at y
              rw [gd1, Bool.and_eq_true] at y
              exact y.1
            obtain ⟨s0, _, e0, _⟩ := vp_pr zv
            obtain ⟨s1, _, e1, _⟩ := vp_pr zo
            have ii : ((i : Nat) : Int) - 1 = ((i - 1 : Nat) : Int) := by omega
            have eg : goodAt g p ds i = PySem.W.dataLt d1 d0 := by
              unfold goodAt
              rw [gd, gd1, zv, decide_eq_false i0]
              rfl
            refine ⟨u, rfl, .ref pt, rfl, .int (i : Nat), rfl, (i : Nat), 1, rfl, rfl, pt, _, ((i : Nat) : Int) - 1, _, rfl, rfl, tupS sN2 hT, (by rw [ii]; exact atI_nat hxp), d0, d1, dKeep sN2 dp, dKeep sN2 dp1, (by rw [e0, e1]; rfl), (by rw [e0]; exact fun z => by cases z), (by rw [e0]; exact (show 1 ≤ 60 by decide)), _, rfl, ?_⟩
            cases zl : PySem.W.dataLt d1 d0
            · exact iteT (raises (v := .int (i : Nat)) (fun R r => ⟨_, rfl, r⟩) sN2 (qn (fail (eg.trans zl))))
            · refine iteF ⟨_, _, rfl, sN2, fun k hk => ?_⟩
              rcases Nat.lt_succ_iff_lt_or_eq.mp hk with z | rfl
              · exact old k z
              · exact eg.trans zl
      · rintro σ G ⟨y3, y4, rfl, s1, old⟩
        rw [lx] at old
        have ev : planD g p (.tuple ds) = (ledP g (g.asks, p) (ds.filterMap toPr) && firstP g p (ds.filterMap toPr)) := by
          have e : planD g p (.tuple ds) = ((List.range ds.length).all (goodAt g p ds) && (ledP g (g.asks, p) (ds.filterMap toPr) && firstP g p (ds.filterMap toPr))) := rfl
          rw [e, List.all_eq_true.mpr fun k hk => old k (List.mem_range.mp hk), Bool.true_and]
        obtain ⟨eds, known⟩ := prs_of (all_ok old)
        rw [ev] at qy qn
        generalize ds.filterMap toPr = ps at ev qy qn eds known
        subst eds
        clear old ev
        have lps : ps.length ≤ 1000 := by rw [List.length_map] at few; exact few
        obtain ⟨pw, q0, ws, rfl, hpw, hq0, hE⟩ := id pg
        refine ⟨.ref pw, rfl, pw, _, 1, .str g.asks, rfl, rfl, tupS s1 hpw, atI_nat (j := 1) rfl, .int p, rfl, (show 2 ≤ sizeLine by decide), fun tf nf => ?_⟩
        have s2 := putS (o := .tup [.str g.asks, .int p]) s1 (s1.free nf)
        have hf : (upd G tf (.tup [.str g.asks, .int p])) tf = some (.tup [.str g.asks, .int p]) := upd_same
        generalize upd G tf (.tup [.str g.asks, .int p]) = G2 at s2 hf ⊢
        refine ⟨.ref pw, rfl, .ref pt, rfl, .ref pw, pt, g, xs, ps, rfl, pg.same s2, gw, tupS s2 hT, dsKeep s2 hds, lps, known, fun l ys H3 s3 hl hys ly => ⟨l, rfl, ⟨ys, .inl (.inl hl)⟩, fun Dd nD => ?_⟩⟩
        have s23 := s2.trans s3
        refine dcT_list (K := K) (a := l) (xs := ys) (fun i G => Same H3 G ∧ ∃ kvs : List (List Key × V), G Dd = some (.dT kvs) ∧ kvs.length ≤ i ∧ ∀ s : Str × Int, (valV kvs [.inr s.1, .inl s.2]).isSome = decide (s ∈ (lv g ps).take i))
          ⟨same_new nD, [], upd_same, Nat.le_refl _, fun s => rfl⟩ (fun i G _ h => .inl (.inl (h.1 _ _ hl))) ?_ ?_
        · rintro i x G4 hx ⟨s4, kvs, eD, lk, hk⟩
          obtain ⟨s0, hs, b, rfl, hb⟩ := hys.get hx
          have hi : i < ys.length := (List.getElem?_eq_some_iff.mp hx).1
          refine ⟨rfl, ?_⟩
          dsimp only [tYes]
          refine iteT ⟨.ref b, rfl, _, DPut.t (k := [.inr s0.1, .inl s0.2]) eD (s4 _ _ hb) (Nat.lt_of_le_of_lt (show kvs.length ≤ 1000000 by omega) (by decide)), putS s4 nD, _, upd_same, ?_, fun s => ?_⟩
          · have := length_putK kvs ([.inr s0.1, .inl s0.2] : List Key) (.bl true)
            omega
          · rw [valV_put, List.take_add_one, hs, Option.toList_some]
            by_cases e : s = s0
            · subst e
              rw [if_pos rfl, decide_eq_true (List.mem_append_right _ (List.mem_singleton.mpr rfl))]
              rfl
            · rw [if_neg (fun z => e ?_), hk s]
              · by_cases m : s ∈ (lv g ps).take i
                · rw [decide_eq_true m, decide_eq_true (List.mem_append_left _ m)]
                · rw [decide_eq_false m, decide_eq_false (fun z => (List.mem_append.mp z).elim m fun y => e (List.mem_singleton.mp y))]
              · injection z with z1 z2
                injection z2 with z2 _
                exact Prod.ext (Sum.inr.inj z1) (Sum.inl.inj z2)
        · rintro G4 ⟨s4, kvs, eD, lk, hk⟩
          rw [List.take_of_length_le (by rw [← hys.len]; exact Nat.le_refl _)] at hk
          have s34 := s23.trans s4
          have ask_nm : nameB (.str g.asks) = true := by
            obtain ⟨e, he, ee⟩ := List.mem_map.mp gw.asks
            exact ee ▸ gw.nm e he
          have dps : DpAll K G4 xs (ps.map dPr) := dsKeep s34 hds
          have hf4 := s4 _ _ (s3 _ _ hf)
          have dpf : Dp K G4 (.ref tf) (dPr (g.asks, p)) := PrAt.dp ⟨tf, rfl, hf4⟩
          refine ⟨.ref pt, rfl, pt, xs, rfl, tupS s34 hT, for_it En.walk_enT (fun i σ G => ∃ y3 y4, σ = [some (.ref pw), some (.int p), some (.ref pt), y3, y4, some (.ref tf), some (.ref Dd), none] ∧ Same G4 G ∧ ∀ k s, k < i → ps[k]? = some s → (s = (g.asks, p) ∨ s ∈ lv g ps)) ⟨_, _, rfl, Same.refl _, fun k s hk => absurd hk (Nat.not_lt_zero k)⟩ (fun i σ G _ ⟨_, _, _, s, _⟩ => tupS (s34.trans s) hT) ?_ ?_⟩
          · rintro i x σ G G' hi ⟨y3, y4, rfl, sG, old⟩ ⟨T0, k, u, rfl, nT, rfl, hk', hv⟩
            obtain rfl : V.int (i : Nat) = k := Option.some.inj hk'
            obtain ⟨d0, hdi, dp⟩ := dsAt dps i u hv
            obtain ⟨s0, hs, rfl⟩ := map_get hdi
            have sN := putS (o := .tup [V.int (i : Nat), u]) sG (sG.free nT)
            refine ⟨T0, _, rfl, .inl (.inl upd_same), rfl, _, _, rfl, _, _, rfl, rfl, ?_⟩
            generalize upd G T0 (.tup [V.int (i : Nat), u]) = G5 at sN ⊢
            refine ⟨u, rfl, .ref tf, rfl, dPr s0, dPr (g.asks, p), dKeep sN dp, dKeep sN dpf, ?_, ?_, _, rfl, ?_⟩
            · exact good_shaped (ni.get hdi).g (show 1 ≤ 64 by decide)
            · exact good_shaped (pr_good ask_nm pb) (show 1 ≤ 64 by decide)
            · rw [pr_eqv]
              by_cases e0 : s0 = (g.asks, p)
              · rw [decide_eq_true e0]
                refine iteF ⟨_, _, rfl, sN, fun k s hk hs' => ?_⟩
                rcases Nat.lt_succ_iff_lt_or_eq.mp hk with z | rfl
                · exact old k s z hs'
                · exact .inl ((Option.some.inj (hs'.symm.trans hs)).trans e0)
              · rw [decide_eq_false e0]
                obtain ⟨bu, rfl, hbu⟩ := pr_seq dp
                refine iteT ⟨.ref bu, rfl, .ref Dd, rfl, bu, Dd, [.inr s0.1, .inl s0.2], kvs, rfl, tupS sN hbu, rfl, sN _ _ eD, _, rfl, ?_⟩
                rw [hk s0, Bool.bne_true]
                by_cases m : s0 ∈ lv g ps
                · rw [decide_eq_true m]
                  refine iteF ⟨_, _, rfl, sN, fun k s hk hs' => ?_⟩
                  rcases Nat.lt_succ_iff_lt_or_eq.mp hk with z | rfl
                  · exact old k s z hs'
                  · exact .inr (Option.some.inj (hs'.symm.trans hs) ▸ m)
                · rw [decide_eq_false m]
                  have no : (ledP g (g.asks, p) ps && firstP g p ps) = false := by
                    have : ledP g (g.asks, p) ps = false := by
                      refine List.all_eq_false.mpr ⟨s0, List.mem_of_getElem? hs, ?_⟩
                      rw [decide_eq_false e0, decide_eq_false m]
                      exact Bool.false_ne_true
                    rw [this, Bool.false_and]
                  exact iteT (raises (v := .int (i : Nat)) (fun R r => ⟨_, rfl, r⟩) (s34.trans sN) (qn no))
          · rintro σ G ⟨y3, y4, rfl, sG, old⟩
            have s5 := s34.trans sG
            have led : ledP g (g.asks, p) ps = true := by
              refine List.all_eq_true.mpr fun s hs => ?_
              obtain ⟨k, hk, e⟩ := List.mem_iff_getElem.mp hs
              rcases old k s (by rw [lx, List.length_map]; exact hk) (by rw [List.getElem?_eq_getElem hk, e]) with z | z
              · rw [decide_eq_true z, Bool.true_or]
              · rw [decide_eq_true z, Bool.or_true]
            rw [led, Bool.true_and] at qy qn
            refine ⟨.ref pw, rfl, .ref pw, rfl, pw, _, 1, .str g.asks, rfl, rfl, tupS s5 hpw, atI_nat (j := 1) rfl, .int p, rfl, .ref pw, g, g.asks, p, rfl, pg.same s5, mem_rows.mp gw.asks, _, rfl, ?_⟩
            unfold firstP at qy qn
            cases zc : canB g g.asks p
            · rw [zc] at qy
              exact iteF (qy rfl _ s5)
            · rw [zc] at qy qn
              refine iteT ⟨.ref tf, rfl, .ref pt, rfl, dPr (g.asks, p), ps.map dPr, dKeep sG dpf, dKeep s5 hd, good_shaped (pr_good ask_nm pb) (show 1 ≤ 64 by decide), good_shaped ni.g (by have := ni.dp; omega), (show 1 ≤ 60 by decide), _, rfl, ?_⟩
              rw [any_pr, Bool.bne_true]
              by_cases m : (g.asks, p) ∈ ps
              · rw [decide_eq_true m]
                exact iteF (qy (by rw [decide_eq_true m]; rfl) _ s5)
              · rw [decide_eq_false m]
                exact iteT (raises (v := .int (-1)) (fun R r => ⟨1, rfl, r⟩) s5 (qn (by rw [decide_eq_false m]; rfl)))
    · have e : planD g p d = false := by
        cases d <;> first | rfl | exact absurd ⟨_, rfl⟩ tup
      refine ⟨false, ?_, iteT ?_⟩
      · cases d <;> first | rfl | exact absurd ⟨_, rfl⟩ tup
      · exact raises (v := .int (-1)) (fun R r => ⟨1, rfl, r⟩) (Same.refl H) (qn e)
end
end Kn


namespace Kn
open PySem PySem.Spec PyProof.Rows L2
def spIp (K : PySem.W.Frag) : Sp := fun vs H Q _ => ∃ (w v : V) (g : Pg) (p : Int) (d : PyData), vs = [w, .int p, v] ∧ PgAt K H w g ∧ GW g ∧ p.natAbs < 1000 ∧ Dp K H v d ∧ Nice d ∧ ∀ H', Same H H' → Q (.bl (planD g p d)) H'
def spPl (K : PySem.W.Frag) : Sp := fun vs H Q _ => ∃ (w v : V) (g : Pg) (p : Int) (d : PyData), vs = [w, .int p, v] ∧ PgAt K H w g ∧ GW g ∧ 0 ≤ p ∧ p.natAbs < 1000 ∧ Dp K H v d ∧ Nice d ∧ ∀ H', Same H H' → Q (.bl (planD g p d)) H'
section
variable {P : Program} {w : World} {K : PySem.W.Frag} {mg : Str → Option Value} {base : Heap}
theorem ok_ip {f fC fI D : Addr} {fd fdC fdI : FuncData} (F : Fun K "is_plan_of" "is_plan_of" (topS 29) f fd) (T : ErrM K mg D fI fdI) (Cp : Def K mg "check_plan" 28 ["web", "marks", "thing"] fC fdC)
    (OC : FnOk P w K mg base (L2.CX P w) 5 fC fdC ["web", "marks", "thing"] (spCp K D)) : FnOk P w K mg base CX0 6 f fd ["web", "marks", "thing"] (spIp K) := by
  refine F.ok scIp (fun vs H Q E h => ?_) (fun cdv A outer s H vs Q E hr h => ?_)
  · obtain ⟨w0, v, g, p, d, rfl, _⟩ := h
    rfl
  · obtain ⟨w0, v, g, p, d, rfl, pg, gw, pb, hd, ni, q⟩ := h
    refine ⟨_, pss_cons (ps_try_only (c := .ref D) (tb := fun W D' σ H => tCallS (spCp K D) (WE W) (tCons (tVar 0) (tCons (tVar 1) (tCons (tVar 2) tNil))) σ H fun _ H' => D'.nx σ H')
        (ts := fun a cls d => tRet (tC (.bl false))) rfl rfl ⟨rfl, by decide, .inl T.m⟩ L2.takes0 (fun W pn xe tk po => ?b1) (fun a oe cls d pn _ _ => pss_one (ps_ret pe_bl))) (pss_one (ps_ret pe_bl)), ?_⟩
    · exact pss_one (ps_expr (pe_callS OC hr (by rfl) Cp.m Cp.F.kp Cp.b (fun σ => passAt tk σ) (pa_cons (pv 0) (pa_cons (pv 1) (pa_cons (pv 2) pa_nil)))))
    · refine ⟨w0, rfl, .int p, rfl, v, rfl, w0, v, g, p, d, rfl, pg, gw, pb, hd, ni, fun z H1 s1 => ?_, fun z dx H1 s1 => ?_⟩
      · have y := q H1 s1
        rw [z] at y
        exact y
      · have y := q H1 s1
        rw [z] at y
        exact ⟨true, T.ex, fun _ a _ => y, fun z => by cases z⟩
end
end Kn


namespace Kn
open PySem PySem.Spec PyProof.Rows L2
/-! ### a set of texts -/
/-- the text of an entry -/
def txt (e : Int × Value) : Str := match e.2 with
  | .str x _ => x
  | _ => Str.empty
def TxtE (w : World) (e : Int × Value) : Prop := ∃ (x : Str) (u : Tok), e.2 = .str x u ∧ e.1 = hashStr w x
/-- at a stands a set with the members L, no two alike -/
structure TxtSet (w : World) (h : Heap) (a : Addr) (L : List Str) : Prop where
  ex : ∃ (o : Obj) (es : Array (Int × Value)) (ep : Nat) (t : SetTable), h.get? a = some o ∧ o.ExactSet ∧ o.data = .set es ep t ∧ (∀ e ∈ es.toList, TxtE w e) ∧
    (es.toList.map txt).Perm L ∧ t.fits es.size = true ∧ Ris t.place.toList ∧ (w.params.followText "set-order" = true ∨ t.led = true)
  nd : L.Nodup
  few : L.length < scanBound
def addT (x : Str) (L : List Str) : List Str := if x ∈ L then L else x :: L
theorem mem_addT {x y : Str} {L : List Str} : y ∈ addT x L ↔ y = x ∨ y ∈ L := by
  unfold addT
  split
  · rename_i m
    exact ⟨.inr, fun z => z.elim (fun q => q ▸ m) id⟩
  · exact List.mem_cons
theorem len_addT (x : Str) (L : List Str) : (addT x L).length ≤ L.length + 1 := by
  unfold addT
  split
  · omega
  · exact Nat.le_refl _
theorem nodup_addT {x : Str} {L : List Str} (h : L.Nodup) : (addT x L).Nodup := by
  unfold addT
  split
  · exact h
  · rename_i m
    exact List.nodup_cons.mpr ⟨m, h⟩
section
variable {P : Program} {w : World} {A : Around} {E : Value → Shared → Prop} {s : Shared} {a : Addr} {L : List Str}
theorem TxtSet.move {h h' : Heap} (R : TxtSet w h a L) (k : ∀ o, h.get? a = some o → h'.get? a = some o) : TxtSet w h' a L := by
  obtain ⟨⟨o, es, ep, t, ho, z⟩, n, f⟩ := R
  exact ⟨⟨o, es, ep, t, k o ho, z⟩, n, f⟩
theorem txt_elems {l : List (Int × Value)} (g : ∀ e ∈ l, TxtE w e) : ElemsOf (PySem.strKind P w) l := by
  intro e m
  obtain ⟨x, u, e1, e2⟩ := g e m
  rw [e1]
  exact ⟨⟨x, strKind_is P w x u, e2⟩, rfl⟩
theorem txt_is {e : Int × Value} (g : TxtE w e) (x : Str) : (PySem.strKind P w).is x e.2 = true ↔ txt e = x := by
  obtain ⟨y, u, e1, _⟩ := g
  unfold txt
  rw [e1]
  constructor
  · intro z
    obtain ⟨u', e'⟩ := Value.isStrOf_shape (x := x) (v := .str y u) z
    cases e'
    rfl
  · rintro rfl
    exact strKind_is P w _ u
theorem len_es {es : Array (Int × Value)} (p : (es.toList.map txt).Perm L) : es.size = L.length := by
  have q := p.length_eq
  rw [List.length_map, Array.length_toList] at q
  exact q
/-- the end of an addition: the table is stored, and laid out anew where it got too full -/
theorem txt_store {gv : Bool → Sem Unit} (free : ∀ (b : Bool) (s1 : Shared) (W : Unit → Shared → Prop), W () s1 → wpAny (model P w) A (gv b) W E s1)
    {o : Obj} {es es1 : Array (Int × Value)} {ep : Nat} {t t2 : SetTable} {L1 : List Str} (ho : s.heap.get? a = some o) (hx : o.ExactSet) (hd : o.data = .set es ep t)
    (g1 : ∀ e ∈ es1.toList, TxtE w e) (p1 : (es1.toList.map txt).Perm L1) (nd : L1.Nodup) (few : L1.length < scanBound) (f2 : t2.fits es1.size = true) (r2 : Ris t2.place.toList)
    (l2 : w.params.followText "set-order" = true ∨ t2.led = true) {dm : Bool} {R : Option Bool → Shared → Prop} (out : ∀ h', Heap.SameBut a s.heap h' → TxtSet w h' a L1 → R (some true) { s with heap := h' }) :
    wpAny (model P w) A (do
      storeSet a es1 t2
      if (!dm && t2.tooFull) = true then do
        gv (relayAll t2 es1 (SetTable.grown es1.size)).2.2
        storeSet a (relayAll t2 es1 (SetTable.grown es1.size)).1 (relayAll t2 es1 (SetTable.grown es1.size)).2.1
        pure (some true)
      else pure (some true)) R E s := by
  have b1 : es1.size < scanBound := by rw [len_es p1]; exact few
  refine wpAny_bind (wpAny_storeSet_of ho hd ?_ (fits_of_scanBound b1))
  have o1 := store_at (es' := es1) (t' := t2) ho hd
  have same1 := Heap.SameBut.update s.heap a (Obj.putSet es1 t2)
  split
  · have q1 := relayAll_perm t2 es1 (SetTable.grown es1.size)
    have q2 := relayAll_fits t2 es1 (SetTable.grown es1.size)
    have q3 := relayAll_ris t2 es1 (SetTable.grown es1.size)
    have q4 := relayAll_led t2 es1 (SetTable.grown es1.size)
    revert q1 q2 q3 q4
    generalize relayAll t2 es1 (SetTable.grown es1.size) = Y
    rcases Y with ⟨es2, t3, gave⟩
    intro q1 q2 q3 q4
    dsimp only at q1 q2 q3 q4 ⊢
    have p2 : (es2.toList.map txt).Perm L1 := (q1.map txt).trans p1
    have b2 : es2.size < scanBound := by rw [len_es p2]; exact few
    refine wpAny_bind (free _ _ _ (wpAny_bind (wpAny_storeSet_of o1 rfl ?_ (fits_of_scanBound b2))))
    refine wpAny_pure (out _ (same1.trans (Heap.SameBut.update _ a _)) ⟨⟨_, es2, _, t3, store_at (es' := es2) (t' := t3) o1 rfl, hx, rfl, fun e m => g1 e (q1.mem_iff.mp m), p2, q2, q3, ?_⟩, nd, few⟩)
    exact l2.imp id fun z => by rw [q4]; exact z
  · exact wpAny_pure (out _ same1 ⟨⟨_, es1, _, t2, o1, hx, rfl, g1, p1, f2, r2, l2⟩, nd, few⟩)
theorem txt_add {x : Str} {u : Tok} {Q : Bool → Shared → Prop} (R : TxtSet w s.heap a L) (room : L.length + 1 < scanBound)
    (hQ : ∀ h' b, Heap.SameBut a s.heap h' → TxtSet w h' a (addT x L) → Q b { s with heap := h' }) : wpAny (model P w) A (setAddHashed a (.str x u) (hashStr w x)) Q E s := by
  obtain ⟨⟨o, es, ep, t, ho, hx, hd, g, p, f, r, l⟩, nd, few⟩ := R
  have el : ElemsOf (PySem.strKind P w) es.toList := txt_elems g
  have b0 : es.size < scanBound := by rw [len_es p]; exact few
  show wpAny (model P w) A (setAddHashed a (.str x u) ((PySem.strKind P w).hash x)) Q E s
  unfold setAddHashed setAddHashedIn
  refine wpAny_holding (wpAny_bind (wpAny_setState_of ho hd f ?_))
  dsimp only
  rw [byScan_of (show (Value.str x u).scannable = true from rfl) b0 el]
  simp only [↓reduceIte]
  unfold setAddByScan
  refine wpAny_bind (wpAny_bind (wpAny_rule (wpAny_bind (wpAny_setScan_of (strKind_is P w x u) ho hd f el ?_))))
  cases fi : List.findIdx? (fun e => (PySem.strKind P w).is x e.2) es.toList with
  | some j =>
    dsimp only
    obtain ⟨lt, at_, _⟩ := List.findIdx?_eq_some_iff_getElem.mp fi
    have m : x ∈ L := p.mem_iff.mp (List.mem_map.mpr ⟨_, List.getElem_mem lt, (txt_is (g _ (List.getElem_mem lt)) x).mp at_⟩)
    have same : addT x L = L := if_pos m
    refine wpAny_pure (wpAny_pure (hQ s.heap _ (Heap.SameBut.refl a s.heap) ?_))
    rw [same]
    exact ⟨⟨o, es, ep, t, ho, hx, hd, g, p, f, r, l⟩, nd, few⟩
  | none =>
    dsimp only
    have nm : x ∉ L := fun z => by
      obtain ⟨e, m, q⟩ := List.mem_map.mp (p.mem_iff.mpr z)
      exact absurd ((txt_is (P := P) (g e m) x).mpr q) (by rw [List.findIdx?_eq_none_iff.mp fi e m]; decide)
    have more : addT x L = x :: L := if_neg nm
    have gw : ∀ (b : Bool) {s1 : Shared} {W : Unit → Shared → Prop}, W () s1 → wpAny (model P w) A (match b with | true => rule "set.scan.the-table-gave-way" | false => pure ()) W E s1 := by
      intro b s1 W q
      cases b
      · exact wpAny_pure q
      · exact wpAny_rule q
    have q1 := layNew_perm t es ((PySem.strKind P w).hash x) (.str x u)
    have q2 := layNew_fits t es ((PySem.strKind P w).hash x) (.str x u)
    have q3 := layNew_ris t es ((PySem.strKind P w).hash x) (.str x u) r
    have q4 := layNew_led t es ((PySem.strKind P w).hash x) (.str x u)
    revert q1 q2 q3 q4
    generalize layNew t es ((PySem.strKind P w).hash x) (.str x u) = Y
    rcases Y with ⟨es1, t1, dm, gave⟩
    intro q1 q2 q3 q4
    dsimp only at q1 q2 q3 q4 ⊢
    rw [Array.toList_push] at q1
    have c : es1.toList.Perm (((PySem.strKind P w).hash x, Value.str x u) :: es.toList) := q1.trans (List.perm_append_singleton _ _)
    have g1 : ∀ e ∈ es1.toList, TxtE w e := by
      intro e m
      rcases List.mem_cons.mp (c.mem_iff.mp m) with rfl | m
      · exact ⟨x, u, rfl, rfl⟩
      · exact g e m
    have p1 : (es1.toList.map txt).Perm (addT x L) := by
      rw [more]
      exact (c.map txt).trans (p.cons x)
    have few1 : (addT x L).length < scanBound := Nat.lt_of_le_of_lt (len_addT x L) room
    have l1 : w.params.followText "set-order" = true ∨ t1.led = true := l.imp id fun z => by rw [q4]; exact z
    have fin : ∀ h', Heap.SameBut a s.heap h' → TxtSet w h' a (addT x L) → wpAny (model P w) A (pure true) Q E { s with heap := h' } := fun h' k r => wpAny_pure (hQ h' _ k r)
    refine wpAny_bind (gw _ ?_)
    split
    · refine wpAny_bind ?_
      rw [hashByValue_scannable 8 (show (Value.str x u).scannable = true from rfl)]
      refine wpAny_pure (txt_store (fun b s1 W q => gw b q) ho hx hd g1 p1 (nodup_addT nd) few1 ?_ ?_ ?_ fun h' k r => ?_)
      · first | exact q2 | (split <;> first | exact q2 | exact SetTable.fits_plain_off q2)
      · first | exact q3 | (split <;> exact q3)
      · first | exact l1 | (split <;> exact l1)
      · exact fin h' k r
    · refine wpAny_bind (wpAny_pure ?_)
      simp only [↓reduceIte]
      refine txt_store (fun b s1 W q => gw b q) ho hx hd g1 p1 (nodup_addT nd) few1 q2 q3 l1 fun h' k r => ?_
      exact fin h' k r
end
end Kn


namespace Kn
open PySem PySem.Spec PyProof.Rows L2
/-- what stands in a set behind these texts, one after another -/
def gathered (xs : List Str) : List Str := xs.foldl (fun L x => addT x L) []
theorem gathered_snoc (xs : List Str) (x : Str) : gathered (xs ++ [x]) = addT x (gathered xs) := by
  unfold gathered
  rw [List.foldl_append]
  rfl
theorem gathered_ind {R : List Str → List Str → Prop} (h0 : R [] []) (h1 : ∀ xs L x, R xs L → R (xs ++ [x]) (addT x L)) (xs : List Str) : R xs (gathered xs) := by
  have all : ∀ n (xs : List Str), xs.length = n → R xs (gathered xs) := by
    intro n
    induction n with
    | zero => intro xs h; rw [List.eq_nil_of_length_eq_zero h]; exact h0
    | succ n ih =>
      intro xs h
      have ne : xs ≠ [] := by rintro rfl; cases h
      rw [← List.dropLast_concat_getLast ne, gathered_snoc]
      exact h1 _ _ _ (ih _ (by rw [List.length_dropLast, h]; rfl))
  exact all _ xs rfl
theorem mem_gathered {xs : List Str} {y : Str} : y ∈ gathered xs ↔ y ∈ xs :=
  gathered_ind (R := fun xs L => y ∈ L ↔ y ∈ xs) Iff.rfl (fun xs L x h => by rw [mem_addT, h, List.mem_append, List.mem_singleton]; exact Or.comm) xs
theorem nodup_gathered (xs : List Str) : (gathered xs).Nodup := gathered_ind (R := fun _ L => L.Nodup) List.nodup_nil (fun _ _ _ h => nodup_addT h) xs
theorem len_gathered (xs : List Str) : (gathered xs).length ≤ xs.length :=
  gathered_ind (R := fun xs L => L.length ≤ xs.length) (Nat.le_refl _) (fun xs L x h => by have := len_addT x L; rw [List.length_append]; show _ ≤ xs.length + 1; omega) xs
theorem txt_fresh {w : World} {h : Heap} {a : Addr} (ho : h.get? a = some { cls := .type "set", dict := none, data := .set #[] 0 (.fresh 0 0 (!w.params.followText "set-order")) }) : TxtSet w h a [] := by
  refine ⟨⟨_, #[], 0, _, ho, ⟨rfl, rfl, rfl⟩, rfl, fun e m => ?_, List.Perm.refl _, rfl, List.Pairwise.nil, ?_⟩, List.nodup_nil, by decide⟩
  · cases m
  · cases hq : w.params.followText "set-order" with
    | true => exact .inl rfl
    | false => exact .inr rfl
section
variable {P : Program} {w : World} {A : Around} {E : Value → Shared → Prop} {s : Shared}
/-- set.update's loop over anything that yields texts -/
theorem txt_loop {I : Addr} {fp wr : List Addr} {G : Array GenState → Array GenState → Prop} {n : Nat} {Pv : Nat → Value → Prop} {St : Nat → Shared → Prop} {R : Result → Shared → Prop} (W : WalksS P w A.in1 I fp wr G n Pv St) (a : Addr) (out : a ∉ fp)
    (xs : List Str) (hn : xs.length = n) (room : n + 1 < scanBound) (val : ∀ i v, Pv i v → ∃ x u, xs[i]? = some x ∧ v = .str x u) :
    ∀ (k i : Nat) (s : Shared), n - i = k → i ≤ n → St i s → TxtSet w s.heap a (gathered (xs.take i)) → (∀ s', Moved (a :: wr) G s s' → TxtSet w s'.heap a (gathered xs) → R (.ok (.ret .none)) s') →
      codeAny (model P w) A (.builtin "set.update.loop" ⟨[.ref a, .ref I], []⟩) R s := by
  have ow : a ∉ wr := fun z => out (W.sub _ z)
  have wider : ∀ b ∈ wr, b ∈ a :: wr := fun b m => List.mem_cons_of_mem _ m
  intro k
  induction k with
  | zero =>
    intro i s hk hi st T fin
    obtain rfl : i = n := by omega
    refine codeAny_builtin PyProof.Rows.F.entry_set_update_loop ?_
    rw [Around.under_plainId PyProof.Rows.F.plain_set_update_loop _]
    show wpAny (model P w) A.in1 (pyNext (.ref I) >>= _) _ _ s
    refine wpAny_bind (W.done s _ _ st fun s' mv => ?_)
    show wpAny (model P w) A.in1 (ret Value.none) _ _ s'
    rw [List.take_of_length_le (by omega)] at T
    exact wpAny_pure (fin s' (mv.mono wider) (T.move fun o e => mv.heap a o ow e))
  | succ k ih =>
    intro i s hk hi st T fin
    have lt : i < n := by omega
    refine codeAny_builtin PyProof.Rows.F.entry_set_update_loop ?_
    rw [Around.under_plainId PyProof.Rows.F.plain_set_update_loop _]
    show wpAny (model P w) A.in1 (pyNext (.ref I) >>= _) _ _ s
    refine wpAny_bind (W.item i s _ _ lt st fun v s' hv st' mv => ?_)
    obtain ⟨x, u, hx, rfl⟩ := val i v hv
    have T' := T.move fun o e => mv.heap a o ow e
    show wpAny (model P w) A.in1 (holding [Value.str x u] (setAdd a (.str x u)) >>= _) _ _ s'
    refine wpAny_bind (wpAny_holding ?_)
    unfold setAdd
    have lr := len_gathered (xs.take i)
    have lt2 : (xs.take i).length ≤ i := by rw [List.length_take]; omega
    refine wpAny_holding (wpAny_bind ((PySem.strKind P w).pyHash (k := x) (strKind_is _ _ _ _) (txt_add (s := { s' with toks := s'.toks + 1 }) T' (by omega) fun h' b same T2 => ?_)))
    rw [← gathered_snoc] at T2
    have tk : xs.take i ++ [x] = xs.take (i + 1) := by rw [List.take_add_one, hx]; rfl
    rw [tk] at T2
    have stay : ∀ b o, b ≠ a → s'.heap.get? b = some o → h'.get? b = some o := fun b o z e => (same.2 b z).trans e
    refine wpAny_pure ⟨plainId_quiet PyProof.Rows.F.plain_set_update_loop _, ih (i + 1) _ (by omega) lt (W.frame _ s' _ _ st' (Nat.le_succ _) fun b m o e => stay b o (fun z => out (z ▸ m)) e) T2 fun s'' mv2 T3 => ?_⟩
    exact fin s'' (Moved.trans W.gtrans ((mv.mono wider).then_heap (Nat.le_succ _) fun b o m e => stay b o (fun z => m (z ▸ List.mem_cons_self ..)) e) mv2) T3
end
end Kn


namespace Kn
open PySem PySem.Spec PyProof.Rows L2
abbrev setObj0 (w : World) : Obj := { cls := .type "set", dict := none, data := .set #[] 0 (.fresh 0 0 (!w.params.followText "set-order")) }
section
variable {P : Program} {w : World} {A : Around} {E : Value → Shared → Prop} {s : Shared}
/-- set(xs) of a list of texts -/
theorem txt_set {l : Addr} {its : Array Value} (xs : List Str) {Q : Value → Shared → Prop} (hh : A.handled = none) (hl : s.heap.IsList l its) (vs : StrsAre its.toList xs) (room : xs.length + 1 < scanBound)
    (q : ∀ (h' : Heap) (tk : Nat), TxtSet w h' s.heap.objs.size (gathered xs) → (∀ b o, s.heap.get? b = some o → h'.get? b = some o) → Q (.ref s.heap.objs.size) { s with heap := h', toks := tk }) :
    wpAny (model P w) A (call (.type "set") [.ref l]) Q E s := by
  have sz : xs.length = its.size := by rw [← StrsAre.len_eq vs, Array.length_toList]
  obtain ⟨cl, tl, hmro⟩ := PySem.F.called_set.mro
  have k1 := PySem.F.called_set.made
  have k2 := PySem.F.called_set.sub
  have k3 := PySem.F.called_set.notType
  have k4 := PySem.F.called_set.canCreate
  have k5 := PySem.F.typeCall_set_1 (.ref l)
  refine wpAny_call (codeAny_of_tree ?_)
  show wpAny _ _ (callAny (.type "set") _) _ _ _
  refine wpAny_pure ⟨Code.quiet_builtin _ (by decide +kernel), codeAny_builtin PySem.F.entry_type_call ?_⟩
  rw [Around.under_plain (weight_type_call_type "set" [.ref l] []) rfl]
  repeat (any_goals (first | assumption | wp_step))
  refine codeAny_mono (code_set_led1 (.ref l) (E := E) (Q₁ := fun v s1 => v = .ref s.heap.objs.size ∧ s1 = { s with heap := s.heap.push (setObj0 w) }) ⟨rfl, rfl⟩) fun r s1 hr => ?_
  rcases r with e | fl
  · exact hr
  cases fl with
  | brk => exact hr.elim
  | cont => exact hr.elim
  | next => exact hr.elim
  | ret v =>
    obtain ⟨rfl, rfl⟩ := hr
    have at0 : (s.heap.push (setObj0 w)).get? s.heap.objs.size = some (setObj0 w) := Heap.get?_push_size _ rfl
    have ty0 : Shared.TypeIs { s with heap := s.heap.push (setObj0 w) } (.ref s.heap.objs.size) "set" := ⟨_, at0, rfl⟩
    have k6 := PySem.F.called_set.init.lookup
    have k7 := PySem.F.called_set.init.bind (.ref s.heap.objs.size)
    repeat (any_goals (first | assumption | wp_step))
    refine codeAny_mono (codeAny_call_builtin (R := wants (fun r s2 => r = .none ∧ ∃ h' tk, s2 = { s with heap := h', toks := tk } ∧ TxtSet w h' s.heap.objs.size (gathered xs) ∧ ∀ b o, s.heap.get? b = some o → h'.get? b = some o) E)
      PySem.F.called_set.init.plain PySem.F.entry_set_init (check_set_init_1 ty0 ?_)) fun r2 s2 hr2 => ?_
    · obtain ⟨⟨oc, od, oda, osl⟩, ho, hc, nl, hd⟩ := hl
      simp only at hc hd
      subst hc; subst hd
      have ho' : (s.heap.push (setObj0 w)).get? l = some { cls := .type "list", dict := od, data := .seq its nl, slots := osl } := Heap.get?_push_of_some _ ho
      have hl' : (s.heap.push (setObj0 w)).IsList l its := ⟨_, ho', rfl, nl, rfl⟩
      have j1 := PySem.F.sub_list_set
      have j2 := PySem.F.sub_list_frozenset
      have j3 : (Value.type "list" == Value.type "dict") = false := by decide
      unfold Builtin.«set.__init__» noKeywords Builtin.Frozenset.updateFrom
      generalize hPI : pyIter = PI
      wp_walk
      subst hPI
      have lS : l < s.heap.objs.size := Heap.lt_size ho
      have z1 : (s.heap.push (setObj0 w)).objs.size = s.heap.objs.size + 1 := Heap.size_push ..
      have nI : l ≠ (s.heap.push (setObj0 w)).objs.size := by rw [z1]; exact Nat.ne_of_lt (Nat.lt_succ_of_lt lS)
      have nS : s.heap.objs.size ∉ [(s.heap.push (setObj0 w)).objs.size, l] := by
        rw [z1]
        intro m
        simp only [List.mem_cons, List.not_mem_nil, or_false] at m
        rcases m with m | m
        · exact absurd m (Nat.ne_of_lt (Nat.lt_succ_self _))
        · exact absurd m.symm (Nat.ne_of_lt lS)
      have h3 : A.in1.in1.in1.handled = none := by simp [hh]
      refine wpAny_pyIter_list hl' (wpAny_bind (wpAny_runValue ?_))
      refine txt_loop ((Walks.list h3 _ l nI its).toS) s.heap.objs.size nS xs sz (by omega) (fun i v hv => ?_) (its.size - 0) 0 _ (by omega) (Nat.zero_le _) ⟨⟨_, Heap.get?_push_size _ rfl, rfl, rfl⟩, hl'.push _⟩ ?_ ?_
      · have lt : i < xs.length := by rw [sz]; exact (Array.getElem?_eq_some_iff.mp hv).1
        obtain ⟨u, e⟩ := SS.strs_at vs i v (by rw [Array.getElem?_toList]; exact hv)
        refine ⟨xs[i], u, List.getElem?_eq_getElem lt, ?_⟩
        rw [e, List.getD_eq_getElem?_getD, List.getElem?_eq_getElem lt]
        rfl
      · exact txt_fresh (Heap.get?_push_of_some _ at0)
      · intro s' mv T
        obtain ⟨h', g2, d', tk', os'⟩ := s'
        have e1 : g2 = s.gens := mv.gens
        have e2 : d' = s.drawn := mv.drawn
        have e3 : os' = s.os := mv.os
        subst e1; subst e2; subst e3
        show wpAny _ _ _ _ _ _
        refine wpAny_pure ?_
        show wpAny _ _ (ret Value.none) _ _ _
        refine wpAny_pure ⟨rfl, h', tk', rfl, T, fun b o e => ?_⟩
        have lb : b < s.heap.objs.size := Heap.lt_size e
        refine mv.heap b o (fun m => ?_) (Heap.get?_push_of_some _ (Heap.get?_push_of_some _ e))
        rcases List.mem_cons.mp m with m | m
        · exact absurd m (Nat.ne_of_lt lb)
        · rw [List.mem_singleton, z1] at m
          exact absurd m (Nat.ne_of_lt (Nat.lt_succ_of_lt lb))
    · rcases r2 with e | fl2
      · exact hr2
      cases fl2 with
      | brk => exact hr2.elim
      | cont => exact hr2.elim
      | next => exact hr2.elim
      | ret v =>
        obtain ⟨rfl, h', tk, rfl, T, keep⟩ := hr2
        repeat (any_goals (first | assumption | wp_step))
        exact q _ _ T keep
/-- sorted of such a set -/
theorem txt_sorted {a : Addr} {L : List Str} {Q : Value → Shared → Prop} (R : TxtSet w s.heap a L) (hh : A.handled = none) (few : L.length < 64)
    (q : ∀ s' p (out : Array Value) (c : Nat) (ys : List Str), (∀ b o, s.heap.get? b = some o → s'.heap.get? b = some o) → s'.gens = s.gens → s'.os = s.os → s.heap.objs.size ≤ p →
      s'.heap.get? p = some (seqObj "list" out c) → StrsAre out.toList ys → ys.Perm L → sortedS ys = true → Q (.ref p) s') :
    wpAny (model P w) A (call (.builtin "sorted") [.ref a]) Q E s := by
  obtain ⟨⟨o, es, ep, t, ho, hx, hd, g, p, f, r, l⟩, nd, _⟩ := R
  have b0 : es.size < scanBound := by rw [len_es p]; exact Nat.lt_trans few (by decide)
  refine Calls.call_function_entry PyProof.Rows.kind_sorted PyProof.Rows.plain_sorted PyProof.Rows.entry_sorted (PyProof.Rows.args_sorted1 _) ?_
  unfold Builtin.«sorted»
  refine wpAny_bind (m := checkCount "sorted" 1 1 _) (wpAny_pure (wpAny_bind (collect_set (A := A.in1) hh ⟨o, ho, hx.1, hd⟩ f b0 r l fun s1 vs k1 hz g1 o1 pm => ?_)))
  have lv : vs.length = L.length := by rw [pm.length_eq, List.length_map, Array.length_toList]; exact len_es p
  obtain ⟨ts, hts, pt⟩ : ∃ ts : List Str, StrsAre vs ts ∧ ts.Perm L := by
    have all : ∀ us : List Value, (∀ v ∈ us, ∃ x u, v = .str x u) → StrsAre us (us.map fun v => txt (0, v)) := by
      intro us
      induction us with
      | nil => exact fun _ => .nil
      | cons v us ih =>
        intro h
        obtain ⟨x, u, rfl⟩ := h v (List.mem_cons_self ..)
        exact .cons x u (ih fun y m => h y (List.mem_cons_of_mem _ m))
    refine ⟨_, all vs fun v m => ?_, ((pm.map fun v => txt (0, v)).trans ?_).trans p⟩
    · obtain ⟨e, me, q⟩ := List.mem_map.mp (pm.mem_iff.mp m)
      obtain ⟨x, u, h1, _⟩ := g e me
      exact ⟨x, u, by rw [← q]; exact h1⟩
    · rw [List.map_map]
      exact List.Perm.refl _
  refine wpAny_bind (wpAny_newList ?_ (by rw [lv, sizeLine_eq]; omega))
  have hoL : (s1.heap.push (seqObj "list" vs.toArray 0)).get? s1.heap.objs.size = some (seqObj "list" vs.toArray 0) := Heap.get?_push_size _ rfl
  refine wpAny_bind (wpAny_holding (wpAny_call_entry PyProof.Rows.slot_list_sort ⟨_, hoL, rfl⟩ PyProof.Rows.entry_list_sort
    (list_sort_treeK strKind_oneLt hoL hts.keysOf (fun v1 v2 rest e => keyKind_strs (by rw [← e]; exact hts)) (by rw [lv]; exact few) fun st hp hs => ⟨_, rfl, ?_⟩) (PyProof.Rows.args_list_sort _)))
  obtain ⟨ys, y1, y2, y3⟩ := sorted_out_str hts hp hs
  obtain ⟨c, hc⟩ := PyProof.Rows.sortedHeap_at (vs := vs) (out := (arrOf st).map (·.2)) hoL
  refine wpAny_pure ⟨_, rfl, q _ s1.heap.objs.size ((arrOf st).map (·.2)) c ys (fun b u e => ?_) g1 o1 hz hc y1 (y2.trans pt) y3⟩
  have e' := k1 b u e
  have lt := Heap.lt_size e'
  show (PyProof.Rows.sortedHeap (s1.heap.push (seqObj "list" vs.toArray 0)) s1.heap.objs.size vs ((arrOf st).map (·.2))).get? b = some u
  rw [PyProof.Rows.sortedHeap_old (Nat.ne_of_lt lt) (by rw [size_push']; exact Nat.lt_succ_of_lt lt)]
  exact Heap.get?_push_of_some _ e'
end
end Kn


namespace Kn
open PySem PySem.Spec PyProof.Rows L2
/-- the tracked set of texts -/
def SetTx (w : World) (a : Addr) (L : List Str) : HO := .ext fun h => TxtSet w h a L
section
variable {X : Cx}
theorem setTx_new {w : World} {P : Program} {H : Hp} {h : Heap} {a : Addr} {L : List Str} (R : TxtSet w h a L) : ObjOk P w H h a (SetTx w a L) := by
  have ⟨⟨o, _, _, _, ho, _⟩, _, _⟩ := R
  exact ⟨R, ⟨o, ho⟩, fun h1 h2 p k => p.move k⟩
theorem setTx_get {pins : List (Addr × Obj)} {σ : L2.St} {H : Hp} {s : Shared} {a : Addr} {L : List Str} (I : Inv X pins σ H s) (ha : H a = some (SetTx X.w a L)) : TxtSet X.w s.heap a L := (I.hok a _ ha).1
/-- set(xs) of texts -/
def rSetTx (K : PySem.W.Frag) (w : World) : List V → Hp → VK → Prop := fun vs H Q => ∃ (l : Addr) (xs : List Str), vs = [.ref l] ∧ SqL K H l (xs.map V.str) ∧ xs.length < 1000 ∧ ∀ p, H p = none → Q (.ref p) (upd H p (SetTx w p (gathered xs)))
theorem cr_setTx (hc : X.calm = true) : CallR X (.type "set") (rSetTx X.K X.w) := by
  intro pins s σ H vs us Q I r h
  obtain ⟨l, xs, rfl, hl, few, q⟩ := h
  rw [Vals.ref1 r]
  obtain ⟨its, rv, pl, hz⟩ := I.list hl
  have room : xs.length + 1 < scanBound := Nat.lt_of_lt_of_le (Nat.succ_lt_succ few) (by decide)
  refine txt_set xs (I.ok.hd hc) pl.isList (by simpa using rv.strs) room fun h' tk T keep => ?_
  exact ⟨.ref _, upd H s.heap.objs.size (SetTx X.w s.heap.objs.size (gathered xs)), I.laid (t' := tk) keep (Nat.le_refl _) (setTx_new T), rfl, q _ (I.hok.fresh (Nat.le_refl _))⟩
/-- sorted of it -/
def rSortedTx (w : World) : List V → Hp → VK → Prop := fun vs H Q => ∃ (a : Addr) (L : List Str), vs = [.ref a] ∧ H a = some (SetTx w a L) ∧ L.length < 64 ∧ ∀ (ys : List Str) (p : Addr), ys.Perm L → sortedS ys = true → H p = none → Q (.ref p) (upd H p (.lst (ys.map V.str)))
theorem cr_sortedTx (hc : X.calm = true) : CallR X (.builtin "sorted") (rSortedTx X.w) := by
  intro pins s σ H vs us Q I r h
  obtain ⟨a, L, rfl, ha, few, q⟩ := h
  rw [Vals.ref1 r]
  refine txt_sorted (setTx_get I ha) (I.ok.hd hc) few fun s' p out c ys keep g o hp hg hi pm so => ?_
  have len : (ys.map V.str).length ≤ sizeLine := by rw [List.length_map, pm.length_eq]; exact Nat.le_trans (Nat.le_of_lt few) (by decide)
  have fresh : H p = none := I.hok.fresh hp
  have J : Inv X pins σ (upd H p (.lst (ys.map V.str))) { s with heap := s'.heap, gens := s'.gens, drawn := s'.drawn, toks := s'.toks } :=
    I.call (ch := []) (Un.laid keep hp fresh) (I.hok.laid keep hp ⟨len, out.toList, c, vals_of_strs hi, hg⟩) (by rw [g]; exact I.bare) (fun _ z => nomatch z)
  have e : s' = { s with heap := s'.heap, gens := s'.gens, drawn := s'.drawn, toks := s'.toks } := by
    rcases s' with ⟨a1, a2, a3, a4, a5⟩
    rcases s with ⟨b1, b2, b3, b4, b5⟩
    cases o
    rfl
  rw [e]
  exact ⟨.ref p, _, J, rfl, q ys p pm so fresh⟩
end
end Kn


namespace Kn
open PySem PySem.Spec PyProof.Rows L2
/-! ### texts in order -/
def leS (a b : Str) : Bool := decide (a.cps.toList ≤ b.cps.toList)
theorem leS_trans {a b c : Str} (h : leS a b = true) (k : leS b c = true) : leS a c = true := decide_eq_true (List.le_trans (of_decide_eq_true h) (of_decide_eq_true k))
theorem leS_total (a b : Str) : (leS a b || leS b a) = true := by
  rcases List.le_total a.cps.toList b.cps.toList with h | h
  · unfold leS
    rw [decide_eq_true h, Bool.true_or]
  · unfold leS
    rw [decide_eq_true h, Bool.or_true]
theorem cps_inj {a b : Str} (h : a.cps.toList = b.cps.toList) : a = b := by
  cases a
  cases b
  exact congrArg Str.mk (Array.toList_inj.mp h)
theorem leS_anti {a b : Str} (h : leS a b = true) (k : leS b a = true) : a = b := cps_inj (List.le_antisymm (of_decide_eq_true h) (of_decide_eq_true k))
theorem str_order : ∀ (xs ys : List Str), xs.Perm ys → xs.Pairwise (fun a b => leS a b = true) → ys.Pairwise (fun a b => leS a b = true) → xs = ys
  | [], ys, p, _, _ => by
    have := p.length_eq
    exact (List.eq_nil_of_length_eq_zero this.symm).symm
  | x :: xs, [], p, _, _ => by
    have := p.length_eq
    cases this
  | x :: xs, y :: ys, p, h, k => by
    obtain ⟨h1, h2⟩ := List.pairwise_cons.mp h
    obtain ⟨k1, k2⟩ := List.pairwise_cons.mp k
    have e : x = y := by
      have mx : x ∈ y :: ys := p.mem_iff.mp (List.mem_cons_self ..)
      have my : y ∈ x :: xs := p.mem_iff.mpr (List.mem_cons_self ..)
      rcases List.mem_cons.mp mx with z | z
      · exact z
      · rcases List.mem_cons.mp my with w | w
        · exact w.symm
        · exact leS_anti (h1 y w) (k1 x z)
    subst e
    rw [str_order xs ys ((List.perm_cons x).mp p) h2 k2]
def sortS (l : List Str) : List Str := l.mergeSort leS
theorem sortS_perm (l : List Str) : (sortS l).Perm l := List.mergeSort_perm _ _
theorem sortS_le (l : List Str) : (sortS l).Pairwise (fun a b => leS a b = true) := List.pairwise_mergeSort (le := leS) (fun _ _ _ => leS_trans) leS_total l
theorem sortS_of {xs l : List Str} (p : xs.Perm l) (h : xs.Pairwise (fun a b => leS a b = true)) : xs = sortS l := str_order _ _ (p.trans (sortS_perm l).symm) h (sortS_le l)
theorem rising_le : ∀ (r : List Str) (p : Str), risingS p r = true → (p :: r).Pairwise (fun a b => leS a b = true)
  | [], _, _ => List.pairwise_singleton _ _
  | x :: r, p, h => by
    have h : (!ltCps x.cps.toList p.cps.toList && risingS x r) = true := h
    obtain ⟨h1, h2⟩ := Bool.and_eq_true_iff.mp h
    have ih := rising_le r x h2
    have px : leS p x = true := by
      rw [ltCps_eq] at h1
      have z : ¬ x.cps.toList < p.cps.toList := by simpa using h1
      exact decide_eq_true (List.not_lt.mp z)
    refine List.pairwise_cons.mpr ⟨fun y hy => ?_, ih⟩
    rcases List.mem_cons.mp hy with rfl | hy
    · exact px
    · exact leS_trans px ((List.pairwise_cons.mp ih).1 y hy)
theorem sorted_leS {ys : List Str} (h : sortedS ys = true) : ys.Pairwise (fun a b => leS a b = true) := by
  cases ys with
  | nil => exact List.Pairwise.nil
  | cons p r => exact rising_le r p h
/-- a set of texts, in order -/
def ascS (xs : List Str) : List Str := sortS (gathered xs)
theorem mem_ascS {xs : List Str} {x : Str} : x ∈ ascS xs ↔ x ∈ xs := (sortS_perm _).mem_iff.trans mem_gathered
theorem ascS_nd (xs : List Str) : (ascS xs).Nodup := (sortS_perm _).nodup_iff.mpr (nodup_gathered xs)
theorem ascS_le (xs : List Str) : (ascS xs).Pairwise (fun a b => leS a b = true) := sortS_le _
theorem ascS_of {ys xs : List Str} (h : ys.Pairwise (fun a b => leS a b = true)) (nd : ys.Nodup) (m : ∀ x, x ∈ ys ↔ x ∈ xs) : ys = ascS xs :=
  sortS_of ((List.perm_ext_iff_of_nodup nd (nodup_gathered xs)).mpr fun x => (m x).trans mem_gathered.symm) h
theorem ascS_eq {xs ys : List Str} (h : ∀ x, x ∈ xs ↔ x ∈ ys) : ascS xs = ascS ys := ascS_of (ascS_le xs) (ascS_nd xs) fun x => mem_ascS.trans (h x)
theorem ascS_len (xs : List Str) : (ascS xs).length ≤ xs.length := by
  have z := (sortS_perm (gathered xs)).length_eq
  have y := len_gathered xs
  unfold ascS
  omega
end Kn


namespace Kn
open PySem PySem.Spec PyProof.Rows L2
/-! ### f(x = e): one parameter, given by its name -/
section
variable {X : Cx} {k : Nat} {f : Addr} {fd : FuncData} {y x : Str} {sp : Sp} {p pos kpos : Pos} {e : Expr} {te : TE}
def tKw (sp : Sp) (te : TE) : TE := fun σ H Q => te σ H fun v G => sp [v] G Q E0
theorem pe_kw1 (F : FnOk X.prog X.w X.K X.mg X.base CX0 k f fd [y] sp) (hr : Room k X.A) (hg : Gl X x) (hm : X.mg x = some (.ref f)) (hk : PySem.W.keepIn X.K (.ref f) = true)
    (hb : ∀ (s : Shared) (u : Value), BindsTo s fd ⟨[], [(y, u)]⟩ [(y, u)]) (he : PE X e te) (hdb : (x == ("__debug__" : Str)) = false := by decide)
    (h1 : (backToKw pos (keywordEach [⟨some y, e, kpos⟩] X.env)).all (·.1.isSome) = true := by rfl) (h2 : (backToKw pos (keywordEach [⟨some y, e, kpos⟩] X.env)).filterMap (·.1) = [y] := by rfl)
    (h3 : ((backTo pos (starEach [] X.env)).any (·.1) || (backToKw pos (keywordEach [⟨some y, e, kpos⟩] X.env)).any (·.1.isNone)) = false := by rfl) :
    PE X (.Call (.Name x p) [] [⟨some y, e, kpos⟩] pos) (tKw sp te) := by
  have hkw : PK X [⟨some y, e, kpos⟩] (tCons te tNil) := pk_cons he pk_nil
  refine ⟨fun pins s σ H Q I told => wpAny_Call_Name_kw (ld_glob I hg hm ?_ hdb)⟩
  refine PySem.W.callWith_KW0 (h₀ := X.base) I.ok.mod.kin hk h1 (thn (hkw.run pos pins s σ H (fun vs G => sp vs G Q E0) I told) ?_) h3
  · rintro us s1 ⟨vs, H1, I1, rv, q⟩
    refine ⟨I1.kIn, ?_⟩
    rw [h2]
    have n1 := F.len _ _ _ _ q
    obtain ⟨v, rfl⟩ : ∃ v, vs = [v] := by
      match vs, n1 with
      | [v], _ => exact ⟨v, rfl⟩
    obtain ⟨u, rfl, ru⟩ := vals1 rv
    refine wpAny_call (codeAny_mono (F.run X.A X.stack s1 H1 ⟨[], [(y, u)]⟩ [u] [v] Q E0 hr I1.env0 (hb s1 u) rv q) ?_)
    intro r s2 out
    cases r with
    | error _ => exact False.elim out
    | ok fl =>
      cases fl with
      | ret u => exact I1.after out
      | next => exact False.elim out
      | brk => exact False.elim out
      | cont => exact False.elim out
end
/-! ### f(y1 = e1, y2 = e2), the other way about than the def names them; nothing is raised -/
section
theorem passF {X : Cx} : Passes (L2.CX X.prog X.w) X E0 := by
  rintro pins σ H s e s' I ⟨_, _, _, _, _, _, _, _, _, _, _, _, z⟩
  exact z.elim
variable {X : Cx} {k : Nat} {f : Addr} {fd : FuncData} {y1 y2 x : Str} {sp : Sp} {p pos k1 k2 : Pos} {e1 e2 : Expr} {t1 t2 : TE}
def tKw2 (sp : Sp) (t1 t2 : TE) : TE := fun σ H Q => t1 σ H fun u G => t2 σ G fun v G' => sp [v, u] G' Q E0
theorem pe_kw2 (F : FnOk X.prog X.w X.K X.mg X.base (L2.CX X.prog X.w) k f fd [y2, y1] sp) (hr : Room k X.A) (hg : Gl X x) (hm : X.mg x = some (.ref f)) (hk : PySem.W.keepIn X.K (.ref f) = true)
    (hb : ∀ (s : Shared) (u v : Value), BindsTo s fd ⟨[], [(y1, u), (y2, v)]⟩ [(y2, v), (y1, u)]) (he1 : PE X e1 t1) (he2 : PE X e2 t2) (hdb : (x == ("__debug__" : Str)) = false := by decide)
    (h1 : (backToKw pos (keywordEach [⟨some y1, e1, k1⟩, ⟨some y2, e2, k2⟩] X.env)).all (·.1.isSome) = true := by rfl) (h2 : (backToKw pos (keywordEach [⟨some y1, e1, k1⟩, ⟨some y2, e2, k2⟩] X.env)).filterMap (·.1) = [y1, y2] := by rfl)
    (h3 : ((backTo pos (starEach [] X.env)).any (·.1) || (backToKw pos (keywordEach [⟨some y1, e1, k1⟩, ⟨some y2, e2, k2⟩] X.env)).any (·.1.isNone)) = false := by rfl) :
    PE X (.Call (.Name x p) [] [⟨some y1, e1, k1⟩, ⟨some y2, e2, k2⟩] pos) (tKw2 sp t1 t2) := by
  have hkw : PK X [⟨some y1, e1, k1⟩, ⟨some y2, e2, k2⟩] (tCons t1 (tCons t2 tNil)) := pk_cons he1 (pk_cons he2 pk_nil)
  refine ⟨fun pins s σ H Q I told => wpAny_Call_Name_kw (ld_glob I hg hm ?_ hdb)⟩
  refine PySem.W.callWith_KW0 (h₀ := X.base) I.ok.mod.kin hk h1 (thn (hkw.run pos pins s σ H (fun vs G => ∃ u v, vs = [u, v] ∧ sp [v, u] G Q E0) I ?_) ?_) h3
  · exact (told : t1 σ H fun u G => t2 σ G fun v G' => sp [v, u] G' Q E0) |> fun z => by
      have mono : (tCons t1 (tCons t2 tNil)) σ H (fun vs G => ∃ u v, vs = [u, v] ∧ sp [v, u] G Q E0) = (t1 σ H fun u G => t2 σ G fun v G' => ∃ u' v', [u, v] = [u', v'] ∧ sp [v', u'] G' Q E0) := rfl
      rw [mono]
      have e : (fun (u : V) (G : Hp) => t2 σ G fun v G' => ∃ u' v', [u, v] = [u', v'] ∧ sp [v', u'] G' Q E0) = fun u G => t2 σ G fun v G' => sp [v, u] G' Q E0 := by
        funext u G
        have e2 : (fun (v : V) (G' : Hp) => ∃ u' v', [u, v] = [u', v'] ∧ sp [v', u'] G' Q E0) = fun v G' => sp [v, u] G' Q E0 := by
          funext v G'
          exact propext ⟨fun ⟨u', v', h, q⟩ => by cases h; exact q, fun q => ⟨u, v, rfl, q⟩⟩
        rw [e2]
      rw [e]
      exact z
  · rintro us s1 ⟨vs, H1, I1, rv, u0, v0, rfl, q⟩
    refine ⟨I1.kIn, ?_⟩
    rw [h2]
    cases rv with
    | cons r1 rr =>
      cases rr with
      | cons r2 rr =>
        cases rr
        refine wpAny_call (codeAny_mono (F.run X.A X.stack s1 H1 ⟨[], [(y1, _), (y2, _)]⟩ [_, _] [v0, u0] Q E0 hr I1.env0 (hb s1 _ _) (.cons r2 (.cons r1 .nil)) q) ?_)
        intro r s2 out
        cases r with
        | error e => exact passF pins σ H1 s1 e s2 I1 out
        | ok fl =>
          cases fl with
          | ret u => exact I1.after out
          | next => exact False.elim out
          | brk => exact False.elim out
          | cont => exact False.elim out
end
end Kn


/-! Kn: a comprehension over a list that is made on the way. -/
namespace Kn
open PySem PySem.Spec PyProof.Rows L2
theorem lc_mapL3 {K : PySem.W.Frag} {xs : List V} {slot : Nat} {te tl : TE} {vs : List Nat} {σ : L2.St} {H : Hp} {Q : VK} (ys : List V) (hl : ys.length = xs.length) (hs : xs.length ≤ 1000)
    (htl : ∀ R : VK, (∀ (a : Addr) (H1 : Hp), Same H H1 → SqL K H1 a xs → R (.ref a) H1) → tl σ H R) (w : ∀ v, wipe ((wipe σ vs).set slot (some v)) vs = wipe σ vs)
    (turn : ∀ (i : Nat) (x y : V) (G : Hp) (R : VK), xs[i]? = some x → ys[i]? = some y → Same H G → (∀ G', Same G G' → R y G') → te ((wipe σ vs).set slot (some x)) G R)
    (done : ∀ (D : Addr) (G : Hp), Same H G → G D = some (.lst ys) → Q (.ref D) G) : tLc (iList K tl) (gName slot) tYes te vs σ H Q := by
  refine htl _ fun a H1 s1 hT => ?_
  show tLc (iList K (fun _ H R => R (V.ref a) H)) (gName slot) tYes te vs σ H1 Q
  exact lc_mapL ys hl hs hT (fun R r => r) w (fun i x y G R hx hy s k => turn i x y G R hx hy (s1.trans s) k) (fun D G _ s e => done D G (s1.trans s) e)
end Kn


/-! Kn: a comprehension with a filter, what comes out told item by item. -/
namespace Kn
open PySem PySem.Spec PyProof.Rows L2
theorem lc_sel {α : Type} {J : It} {xs : List V} {Gd : Hp → Prop} (w : Walk J xs.length Gd (YAt xs)) {g : TG} {tt : TT} {te : TE} {vs : List Nat} {σ : L2.St} {H1 : Hp} {D : Addr} {Qd : Hp → Prop} (as : List α) (out : α → Option V) (nD : H1 D = none) (hl : as.length = xs.length) (few : xs.length ≤ 100000) (st : ∀ G, Same H1 G → Gd G)
    (turn : ∀ (i : Nat) (x : V) (s : α) (G : Hp) (N : Hp → Prop) (Y : V → Hp → Prop), xs[i]? = some x → as[i]? = some s → Same H1 G → (∀ G', Same G G' → out s = none → N G') → (∀ v G', Same G G' → out s = some v → Y v G') →
      g x (wipe σ vs) G fun σ2 H2 => wipe σ2 vs = wipe σ vs ∧ tt σ2 H2 fun b H3 => if b = true then te σ2 H3 Y else N H3)
    (done : ∀ G, Same H1 G → G D = some (.lst (as.filterMap out)) → Qd G) :
    ∃ W : Nat → Nat → Hp → Prop, (∃ m, W 0 m (upd H1 D (.lst []))) ∧ ∀ i m H, W i m H →
      (J.stop i H ∧ Qd H) ∨ (J.go i H ∧ ∃ Nx : Hp → Prop, (∀ H', Nx H' → ∃ m', m' < m ∧ W (i + 1) m' H') ∧ ∀ x H', J.yld i H x H' → g x (wipe σ vs) H' fun σ2 H2 => wipe σ2 vs = wipe σ vs ∧ tt σ2 H2 fun b H3 =>
        if b = true then te σ2 H3 fun y H4 => ∃ acc, H4 D = some (.lst acc) ∧ acc.length < sizeLine ∧ Nx (upd H4 D (.lst (acc ++ [y]))) else Nx H3) := by
  refine lc_it w (fun i G => Same H1 G ∧ G D = some (.lst ((as.take i).filterMap out))) ⟨same_new nD, upd_same⟩ (fun i G _ h => st G h.1) ?_ ?_
  · rintro i x G G0 hi ⟨sm, eD⟩ ⟨rfl, hx⟩
    have hs : as[i]? = some (as[i]'(by omega)) := List.getElem?_eq_getElem (by omega)
    generalize as[i]'(by omega) = s at hs
    have tk : as.take (i + 1) = as.take i ++ [s] := by rw [List.take_add_one, hs]; rfl
    have l1 : ((as.take i).filterMap out).length ≤ 100000 := by
      have := List.length_filterMap_le out (as.take i)
      rw [List.length_take] at this
      omega
    refine turn i x s G0 _ _ hx hs sm (fun G' s' ho => ⟨sm.trans s', ?_⟩) (fun v G' s' ho => ⟨_, s' _ _ eD, Nat.lt_of_le_of_lt l1 (by decide), putS (sm.trans s') nD, ?_⟩)
    · rw [s' _ _ eD, tk, List.filterMap_append, List.filterMap_cons_none ho]
      simp
    · rw [upd_same, tk, List.filterMap_append, List.filterMap_cons_some ho]
      rfl
  · rintro G ⟨sm, eD⟩
    rw [← hl, List.take_length] at eD
    exact done G sm eD
def rLenK (K : PySem.W.Frag) : List V → Hp → VK → Prop := fun xs H Q => ∃ (p : Addr) (ys : List V), xs = [V.ref p] ∧ (SqL K H p ys ∨ SqT K H p ys) ∧ Q (V.int ((ys.length : Nat) : Int)) H
theorem call_lenK {X : Cx} {K : PySem.W.Frag} (e : X.K = K) : CallR X (.builtin "len") (rLenK K) := by
  subst e
  exact call_len_seq
end Kn


namespace Kn
open PySem PySem.Spec PyProof.Rows L2
abbrev nLk : List Str := ["_law_book", "_law_name", "_law_row"]
theorem scLk : FnScope nLk ["_law_book", "_law_name"] (defScope (topS 43)) := ⟨rfl, rfl, rfl, by decide +kernel, rfl, by decide +kernel, by decide +kernel⟩
abbrev nLl : List Str := ["_law_book", "_law_duo", "_law_row", "_law_name"]
theorem scLl : FnScope nLl ["_law_book", "_law_duo"] (defScope (topS 44)) := ⟨rfl, rfl, rfl, by decide +kernel, rfl, by decide +kernel, by decide +kernel⟩
abbrev nLc : List Str := ["_law_book", "_law_duo", "_law_row"]
theorem scLc : FnScope nLc ["_law_book", "_law_duo"] (defScope (topS 45)) := ⟨rfl, rfl, rfl, by decide +kernel, rfl, by decide +kernel, by decide +kernel⟩
theorem pick1 {H : Hp} {K : PySem.W.Frag} {x : Str} {e : Ent} : ∀ {ws : List V} {es : List Ent}, EntsAt K H ws es → es.find? (fun e : Ent => decide (e.name = x)) = some e → ∃ r rest, (((ws.zip es).map fun p => (decide (p.2.name = x), p.1)).filter (·.1)).map (·.2) = r :: rest ∧ EntAt K H r e
  | _, _, .nil, h => by cases h
  | _, _, .cons (v := v) (vs := vs) (e := o) (es := es) a b, h => by
    rw [List.zip_cons_cons, List.map_cons, List.filter_cons]
    rw [List.find?_cons] at h
    by_cases z : o.name = x
    · rw [decide_eq_true z] at h
      cases h
      dsimp only
      rw [decide_eq_true z, if_pos rfl, List.map_cons]
      exact ⟨_, _, rfl, a⟩
    · rw [decide_eq_false z] at h
      dsimp only
      rw [decide_eq_false z, if_neg Bool.false_ne_true]
      exact pick1 b h
def spLk (K : PySem.W.Frag) : Sp := fun vs H Q _ => ∃ (v : V) (g : Pg) (n : Str) (e : Ent), vs = [v, .str n] ∧ PgAt K H v g ∧ g.es.length ≤ 1000 ∧ rowOf g n = some e ∧ ∀ r H', Same H H' → EntAt K H' r e → Q r H'
def spLl (K : PySem.W.Frag) : Sp := fun vs H Q _ => ∃ (w v : V) (g : Pg) (s : Str × Int), vs = [w, v] ∧ PgAt K H w g ∧ GW g ∧ Dp K H v (dPr s) ∧ (rowOf g s.1).isSome = true ∧
  ∀ (l : Addr) (ys : List V) (H' : Hp), Same H H' → H l = none → H' l = some (.lst ys) → PrsAt H' ys (lvOf g s) → Q (.ref l) H'
def spLc (K : PySem.W.Frag) : Sp := fun vs H Q _ => ∃ (w v : V) (g : Pg) (s : Str × Int), vs = [w, v] ∧ PgAt K H w g ∧ g.es.length ≤ 1000 ∧ Dp K H v (dPr s) ∧ (rowOf g s.1).isSome = true ∧ ∀ (H' : Hp), Same H H' → Q (.bl (canB g s.1 s.2)) H'
section
variable {P : Program} {w : World} {K : PySem.W.Frag} {mg : Str → Option Value} {base : Heap}
theorem ok_lk {f : Addr} {fd : FuncData} (F : Fun K "_law_kind" "_law_kind" (topS 43) f fd) : FnOk P w K mg base CX0 1 f fd ["_law_book", "_law_name"] (spLk K) := by
  refine F.ok scLk (fun vs H Q E h => ?_) (fun cdv A outer s H vs Q E hr h => ?_)
  · obtain ⟨v, g, n, e, rfl, _⟩ := h
    rfl
  · obtain ⟨v, g, x, e, rfl, ⟨p, r, ws, rfl, hp, hr', hE⟩, few, he, q⟩ := h
    have lw := hE.len
    refine ⟨_, (pss_one (ps_ret (pe_ix ix_list (pe_lc (own := [("_law_row", 2)]) (g := gName 2) (by rfl) scLk.nd (pi_tup (pe_ix ix_tup (pv 0) pe_int (fun _ _ => rfl))) (blkOk_by (own := [("_law_row", 2)]) (N := nLk) (sc := defScope (topS 43)) (by decide +kernel)) (fun _ _ _ _ _ => pg_name (i := 2) scLk.nd rfl (Or.inl rfl)) (fun _ _ _ _ _ => (pts_one (pt_cmpR op_eq (pe_ix (r := rIxT K) ix_tup (pv 2) pe_int (fun _ _ => rfl)) (pv 1) (nomark _)))) (fun _ _ _ _ _ => (pv 2))) pe_int (fun _ _ => rfl)))), ?_⟩
    obtain ⟨r0, rest, hl, hv0⟩ := pick1 (H := H) (x := x) hE he
    dsimp only [tRet, tOp]
    refine lc_pickT (a := r) (xs := ws) ((ws.zip g.es).map fun p => (decide (p.2.name = x), p.1)) (by simp; omega) (by omega) hr' (fun R k => ⟨.ref p, rfl, p, _, 0, .ref r, rfl, rfl, hp, atI_nat (j := 0) rfl, k⟩) (fun v => rfl) ?_ ?_ ?_
    · intro i y b z G R hx hy sm k
      obtain ⟨o, ho, hv⟩ := hE.get hx
      obtain ⟨⟨y', o'⟩, hz, ey⟩ := map_get hy
      obtain ⟨hx', ho'⟩ := List.getElem?_zip_eq_some.mp hz
      obtain rfl : y = y' := Option.some.inj (hx.symm.trans hx')
      obtain rfl : o = o' := Option.some.inj (ho.symm.trans ho')
      cases ey
      obtain ⟨p2, r2, rfl, hp2, hr2⟩ := hv.same sm
      refine ⟨.ref p2, rfl, p2, _, 0, _, rfl, rfl, hp2, atI_nat (j := 0) rfl, _, rfl, rfl, _, rfl, ?_⟩
      have e2 : decide (V.str o.name = V.str x) = decide (o.name = x) := by
        by_cases z : o.name = x
        · rw [decide_eq_true z, decide_eq_true (congrArg V.str z)]
        · rw [decide_eq_false z, decide_eq_false (fun y => z (V.str.inj y))]
      rw [e2]
      exact k
    · intro i y b z G R hx hy sm k
      obtain ⟨⟨y', o'⟩, hz, ey⟩ := map_get hy
      obtain ⟨hx', ho'⟩ := List.getElem?_zip_eq_some.mp hz
      obtain rfl : y = y' := Option.some.inj (hx.symm.trans hx')
      cases ey
      exact ⟨_, rfl, k⟩
    · intro D G nD sm hD
      rw [hl] at hD
      exact ⟨D, _, 0, r0, rfl, rfl, .inl (.inl hD), atI_nat (j := 0) rfl, q r0 G sm (hv0.same sm)⟩
theorem ok_ll {f fK : Addr} {fd fdK : FuncData} (F : Fun K "_law_left" "_law_left" (topS 44) f fd) (Ki : Def K mg "_law_kind" 43 ["_law_book", "_law_name"] fK fdK) (OK : FnOk P w K mg base CX0 1 fK fdK ["_law_book", "_law_name"] (spLk K)) :
    FnOk P w K mg base CX0 2 f fd ["_law_book", "_law_duo"] (spLl K) := by
  refine F.ok scLl (fun vs H Q E h => ?_) (fun cdv A outer s H vs Q E hr h => ?_)
  · obtain ⟨w0, v, g, s, rfl, _⟩ := h
    rfl
  · obtain ⟨w0, v, g, s0, rfl, pg, gw, hd, hs, q⟩ := h
    obtain ⟨e, he⟩ := Option.isSome_iff_exists.mp hs
    obtain ⟨b, rfl, hb⟩ := pr_seq hd
    have few := gw.few
    refine ⟨_, (pss_cons (ps_set (i := 2) scLl.nd rfl (.inr rfl) (pe_call OK hr (by rfl) Ki.m Ki.F.kp Ki.b .nil pass0 (pa_cons (pv 0) (pa_cons (pe_ix ix_tup (pv 1) pe_int (fun _ _ => rfl)) pa_nil))))
      (pss_one (ps_ret (pe_lc (own := [("_law_name", 3)]) (g := gName 3) (by rfl) scLl.nd (pi_tup (pe_ix ix_tup (pv 2) pe_int (fun _ _ => rfl))) (blkOk_by (own := [("_law_name", 3)]) (N := nLl) (sc := defScope (topS 44)) (by decide +kernel)) (fun _ _ _ _ _ => pg_name (i := 3) scLl.nd rfl (Or.inl rfl)) (fun _ _ _ _ _ => pts_nil) (fun _ _ _ _ _ => (pe_tup (pa_cons (pv 3) (pa_cons (pe_op op_sub (pe_ix (r := rIxT K) ix_tup (pv 1) pe_int (fun _ _ => rfl)) (pe_ix (r := rIxT K) ix_tup (pv 2) pe_int (fun _ _ => rfl))) pa_nil)))))))), ?_⟩
    refine ⟨w0, rfl, .ref b, rfl, b, _, 0, .str s0.1, rfl, rfl, hb, atI_nat (j := 0) rfl, w0, g, s0.1, e, rfl, pg, by omega, he, fun r H1 s1 hv => ?_⟩
    obtain ⟨pe, qe, rfl, hpe, hqe⟩ := id hv
    have el : lvOf g s0 = e.row.map fun k => (k, s0.2 - e.fee) := by
      unfold lvOf
      rw [he]
    have e5 := gw.rows e (row_is he).1
    refine ⟨.ref pe, rfl, pe, _, 3, .ref qe, rfl, rfl, hpe, atI_nat (j := 3) rfl, qe, rfl, ⟨_, hqe⟩, fun D nD => ?_⟩
    refine lc_tup (K := K) (a := qe) (xs := e.row.map V.str) (fun i G => Same H1 G ∧ ∃ acc, G D = some (.lst acc) ∧ acc.length ≤ i ∧ PrsAt G acc ((e.row.take i).map fun k => (k, s0.2 - e.fee))) ⟨same_new nD, [], upd_same, Nat.zero_le _, .nil⟩ (fun i G _ h => tupS h.1 hqe) ?_ ?_
    · rintro i x G hx ⟨sm, acc, eD, la, hacc⟩
      have hi : i < (e.row.map V.str).length := (List.getElem?_eq_some_iff.mp hx).1
      rw [List.length_map] at hi
      obtain ⟨k, hk, rfl⟩ := map_get hx
      refine ⟨rfl, ?_⟩
      dsimp only [tYes]
      refine iteT ⟨.str k, rfl, .ref b, rfl, b, _, 1, .int s0.2, rfl, rfl, tupS (s1.trans sm) hb, atI_nat (j := 1) rfl, .ref pe, rfl, pe, _, 1, .int e.fee, rfl, rfl, tupS sm hpe, atI_nat (j := 1) rfl, s0.2, e.fee, rfl, rfl, ⟨show 2 ≤ sizeLine by decide, fun t nt => ?_⟩⟩
      have ne : D ≠ t := ne_of_none eD nt
      have t1 : TS G (upd G t (.tup [.str k, .int (s0.2 - e.fee)])) := ts_same (same_new nt)
      have t2 : TS (upd G t (.tup [.str k, .int (s0.2 - e.fee)])) (upd (upd G t (.tup [.str k, .int (s0.2 - e.fee)])) D (.lst (acc ++ [.ref t]))) := ts_lst ((upd_ne ne).trans eD)
      refine ⟨acc, (upd_ne ne).trans eD, small' (by omega), putS (putS sm (sm.free nt)) nD, acc ++ [.ref t], upd_same, by rw [List.length_append]; show acc.length + 1 ≤ _; omega, ?_⟩
      rw [List.take_add_one, hk, List.map_append]
      exact PrsAt.app ((hacc.ts t1).ts t2) (.cons ⟨t, rfl, t2.1 _ _ upd_same⟩ .nil)
    · rintro G ⟨sm, acc, eD, la, hacc⟩
      rw [List.length_map, List.take_length, ← el] at hacc
      exact q D acc G (s1.trans sm) (s1.free nD) eD hacc
theorem ok_lc {f fK : Addr} {fd fdK : FuncData} (F : Fun K "_law_can_send" "_law_can_send" (topS 45) f fd) (Ki : Def K mg "_law_kind" 43 ["_law_book", "_law_name"] fK fdK) (OK : FnOk P w K mg base CX0 1 fK fdK ["_law_book", "_law_name"] (spLk K)) :
    FnOk P w K mg base CX0 2 f fd ["_law_book", "_law_duo"] (spLc K) := by
  refine F.ok scLc (fun vs H Q E h => ?_) (fun cdv A outer s H vs Q E hr h => ?_)
  · obtain ⟨w0, v, g, s, rfl, _⟩ := h
    rfl
  · obtain ⟨w0, v, g, s0, rfl, pg, few, hd, hs, q⟩ := h
    obtain ⟨e, he⟩ := Option.isSome_iff_exists.mp hs
    obtain ⟨b, rfl, hb⟩ := pr_seq hd
    refine ⟨_, (pss_cons (ps_set (i := 2) scLc.nd rfl (.inl rfl) (pe_call OK hr (by rfl) Ki.m Ki.F.kp Ki.b .nil pass0 (pa_cons (pv 0) (pa_cons (pe_ix ix_tup (pv 1) pe_int (fun _ _ => rfl)) pa_nil))))
      (pss_one (ps_ret (pe_and (pe_not (pe_ix ix_tup (pv 2) pe_int (fun _ _ => rfl))) (pe_one (pe_cmpR op_ge (pe_ix ix_tup (pv 1) pe_int (fun _ _ => rfl)) (pe_ix ix_tup (pv 2) pe_int (fun _ _ => rfl)) (nomark _))))))), ?_⟩
    refine ⟨w0, rfl, .ref b, rfl, b, _, 0, .str s0.1, rfl, rfl, hb, atI_nat (j := 0) rfl, w0, g, s0.1, e, rfl, pg, few, he, fun r H1 s1 hv => ?_⟩
    obtain ⟨pe, qe, rfl, hpe, hqe⟩ := id hv
    have ec : canB g s0.1 s0.2 = (!e.has && decide (e.fee ≤ s0.2)) := by
      unfold canB
      rw [he]
    rw [ec] at q
    refine ⟨.ref pe, rfl, pe, _, 2, .bl e.has, rfl, rfl, hpe, atI_nat (j := 2) rfl, e.has, rfl, _, rfl, ?_⟩
    have y := q H1 s1
    cases hh : e.has
    · rw [hh] at y
      exact iteT ⟨.ref b, rfl, b, _, 1, .int s0.2, rfl, rfl, tupS s1 hb, atI_nat (j := 1) rfl, .ref pe, rfl, pe, _, 1, .int e.fee, rfl, rfl, hpe, atI_nat (j := 1) rfl, s0.2, e.fee, rfl, rfl, y⟩
    · rw [hh] at y
      exact iteF y
end
end Kn


/-! Kn: keys of any depth in sets: what is asked of a key aside of == and hash. -/
namespace Kn
open PySem PySem.Spec PyProof.Rows L2
section
variable {P : Program} {w : World}
/-- a question asked of a value: it ends with this answer, and nothing is changed -/
def Told (P : Program) (w : World) (s : Shared) (m : Sem Bool) (b : Bool) : Prop := ∀ (A : Around) (E : Value → Shared → Prop) (Q : Bool → Shared → Prop), Q b s → wpAny (model P w) A m Q E s
theorem told_pure {s : Shared} {b : Bool} : Told P w s (pure b) b := fun _ _ _ q => wpAny_pure q
/-- none of the items is of a class statement -/
theorem none_of {n : Nat} {s : Shared} : ∀ (vs : List Value), (∀ v ∈ vs, Told P w s (ofAClassStatement n v) false) → ∀ {A : Around} {E : Value → Shared → Prop} {Q : Option Bool × Unit → Shared → Prop}, Q (none, ()) s →
    wpAny (model P w) A (forIn vs ((none, ()) : Option Bool × Unit) fun y r => do
      if ← ofAClassStatement n y then return ForInStep.done (some true, ())
      return ForInStep.yield (none, ())) Q E s
  | [], _, A, E, Q, q => wpAny_pure q
  | v :: r, h, A, E, Q, q => by
    rw [List.forIn_cons]
    refine wpAny_bind (wpAny_bind (h v (List.mem_cons_self ..) A E _ ?_))
    simp only [Bool.false_eq_true, if_false]
    exact wpAny_pure (none_of r (fun x hx => h x (List.mem_cons_of_mem _ hx)) q)
theorem all_by {n : Nat} {s : Shared} : ∀ (vs : List Value), (∀ v ∈ vs, ∃ b, Told P w s (hashByValue n v) b) → ∃ x : Option Bool, ∀ {A : Around} {E : Value → Shared → Prop} {Q : Option Bool × Unit → Shared → Prop}, Q (x, ()) s →
    wpAny (model P w) A (forIn vs ((none, ()) : Option Bool × Unit) fun y r => do
      if !(← hashByValue n y) then return ForInStep.done (some false, ())
      return ForInStep.yield (none, ())) Q E s
  | [], _ => ⟨none, fun q => wpAny_pure q⟩
  | v :: r, h => by
    obtain ⟨b, hb⟩ := h v (List.mem_cons_self ..)
    obtain ⟨x, hx⟩ := all_by r fun u hu => h u (List.mem_cons_of_mem _ hu)
    cases b
    · refine ⟨some false, fun {A E Q} q => ?_⟩
      rw [List.forIn_cons]
      refine wpAny_bind (wpAny_bind (hb A E _ ?_))
      simp only [Bool.not_false, if_true]
      exact wpAny_pure (wpAny_pure q)
    · refine ⟨x, fun {A E Q} q => ?_⟩
      rw [List.forIn_cons]
      refine wpAny_bind (wpAny_bind (hb A E _ ?_))
      simp only [Bool.not_true, Bool.false_eq_true, if_false]
      exact wpAny_pure (hx q)
theorem class_tup {n : Nat} {s : Shared} {a : Addr} {o : Obj} {vs : Array Value} {m : Nat} (ho : s.heap.get? a = some o) (hc : o.cls = .type "tuple") (hd : o.data = .seq vs m) (h : ∀ v ∈ vs.toList, Told P w s (ofAClassStatement n v) false) :
    Told P w s (ofAClassStatement (n + 1) (.ref a)) false := fun A E Q q => by
  have ty : s.TypeIs (.ref a) "tuple" := ⟨o, ho, hc⟩
  unfold ofAClassStatement
  refine wpAny_bind (wpAny_typeOf ty ?_)
  dsimp only
  simp only [show (("tuple" : String) == "tuple") = true by decide, if_true, Bool.not_true, Bool.false_eq_true, if_false]
  try refine wpAny_bind (wpAny_pure ?_)
  try simp only [Bool.not_true, Bool.false_eq_true, if_false]
  refine wpAny_bind (wpAny_seqItems ho hd ?_)
  dsimp only
  refine wpAny_bind ?_
  rw [← Array.forIn_toList]
  refine none_of vs.toList h ?_
  exact wpAny_pure q
theorem hash_tup {n : Nat} {s : Shared} {a : Addr} {o : Obj} {vs : Array Value} {m : Nat} (ho : s.heap.get? a = some o) (hc : o.cls = .type "tuple") (hd : o.data = .seq vs m) (h : ∀ v ∈ vs.toList, ∃ b, Told P w s (hashByValue n v) b) :
    ∃ b, Told P w s (hashByValue (n + 1) (.ref a)) b := by
  have ty : s.TypeIs (.ref a) "tuple" := ⟨o, ho, hc⟩
  obtain ⟨x, hx⟩ := all_by vs.toList h
  refine ⟨x.getD true, fun A E Q q => ?_⟩
  unfold hashByValue
  refine wpAny_bind (wpAny_specialOf ty F.slot_tuple_hash.lookup ?_)
  dsimp only
  refine wpAny_bind (wpAny_seqItems ho hd ?_)
  refine wpAny_bind ?_
  simp only [Option.getD_some]
  rw [← Array.forIn_toList]
  refine hx ?_
  cases x with
  | none => exact wpAny_pure q
  | some b => exact wpAny_pure q
mutual
theorem key_class : ∀ (k : NestedKey) (v : Value) (n : Nat) (s : Shared), NestedIs s.heap k v → k.depth ≤ n → Told P w s (ofAClassStatement n v) false
  | .none, _, n, s, x, _ => by cases x; cases n <;> exact told_pure
  | .num i, _, n, s, x, _ => by cases x <;> (cases n <;> exact told_pure)
  | .text y, _, n, s, x, _ => by cases x; cases n <;> exact told_pure
  | .tup ks, _, n, s, x, hn => by
    cases x with
    | tup h1 h2 h3 h4 =>
      simp only [NestedKey.depth] at hn
      cases n with
      | zero => omega
      | succ n => exact class_tup h1 h2 h3 (keys_class ks _ n s h4 (by omega))
theorem keys_class : ∀ (ks : List NestedKey) (vs : List Value) (n : Nat) (s : Shared), NestedAll s.heap ks vs → NestedKey.depthAll ks ≤ n → ∀ v ∈ vs, Told P w s (ofAClassStatement n v) false
  | [], _, n, s, x, _, v, hv => by cases x; cases hv
  | k :: ks, _, n, s, x, hn, v, hv => by
    cases x with
    | cons x1 x2 =>
      simp only [NestedKey.depthAll] at hn
      rcases List.mem_cons.mp hv with e | hv
      · rw [e]; exact key_class k _ n s x1 (by omega)
      · exact keys_class ks _ n s x2 (by omega) v hv
end
mutual
theorem key_byv : ∀ (k : NestedKey) (v : Value) (n : Nat) (s : Shared), NestedIs s.heap k v → k.depth ≤ n → ∃ b, Told P w s (hashByValue n v) b
  | .none, _, n, s, x, _ => by cases x; exact ⟨true, by cases n <;> exact told_pure⟩
  | .num i, _, n, s, x, _ => by cases x <;> exact ⟨true, by cases n <;> exact told_pure⟩
  | .text y, _, n, s, x, _ => by cases x; exact ⟨false, by cases n <;> exact told_pure⟩
  | .tup ks, _, n, s, x, hn => by
    cases x with
    | tup h1 h2 h3 h4 =>
      simp only [NestedKey.depth] at hn
      cases n with
      | zero => omega
      | succ n => exact hash_tup h1 h2 h3 (keys_byv ks _ n s h4 (by omega))
theorem keys_byv : ∀ (ks : List NestedKey) (vs : List Value) (n : Nat) (s : Shared), NestedAll s.heap ks vs → NestedKey.depthAll ks ≤ n → ∀ v ∈ vs, ∃ b, Told P w s (hashByValue n v) b
  | [], _, n, s, x, _, v, hv => by cases x; cases hv
  | k :: ks, _, n, s, x, hn, v, hv => by
    cases x with
    | cons x1 x2 =>
      simp only [NestedKey.depthAll] at hn
      rcases List.mem_cons.mp hv with e | hv
      · rw [e]; exact key_byv k _ n s x1 (by omega)
      · exact keys_byv ks _ n s x2 (by omega) v hv
end
/-- the value at an address is a key -/
def KeyAt (h : Heap) (m : Addr × NestedKey) : Prop := NestedIs h m.2 (.ref m.1) ∧ m.2.depth ≤ 8
theorem unseen {s : Shared} {x : Addr} {k : NestedKey} (hx : KeyAt s.heap (x, k)) : ∀ (ys : List Value), (∀ y ∈ ys, ∃ m, y = Value.ref m.1 ∧ KeyAt s.heap m) → Told P w s (searchCouldBeSeen (.ref x) ys) false := by
  intro ys hy A E Q q
  unfold searchCouldBeSeen
  refine wpAny_bind ?_
  refine wpAny_forIn_list _ (fun rest r s' => r.1 = none ∧ s' = s ∧ ∀ y ∈ rest, ∃ m, y = Value.ref m.1 ∧ KeyAt s.heap m) _ ?_ ?_ _ _ ⟨rfl, rfl, hy⟩
  · rintro z rest r s' ⟨_, rfl, hz⟩
    obtain ⟨m, rfl, hm⟩ := hz z (List.mem_cons_self ..)
    have hr := fun y (h : y ∈ rest) => hz y (List.mem_cons_of_mem _ h)
    dsimp only
    by_cases c : (x == m.1 || (carriedByValue (.ref x) && carriedByValue (.ref m.1))) = true
    · exact wp_if_pos c (wpAny_pure ⟨rfl, rfl, hr⟩)
    · refine wp_if_neg c (wpAny_bind (quiet_key _ _ 8 s' hx.1 hx.2 _ _ _ ?_))
      simp only [Bool.not_true, Bool.false_eq_true, if_false]
      refine wpAny_bind (quiet_key _ _ 8 s' hm.1 hm.2 _ _ _ ?_)
      simp only [Bool.not_true, Bool.false_eq_true, if_false]
      refine wpAny_bind (key_class _ _ 8 s' hx.1 hx.2 _ _ _ ?_)
      simp only [Bool.false_eq_true, if_false]
      refine wpAny_bind (key_class _ _ 8 s' hm.1 hm.2 _ _ _ ?_)
      simp only [Bool.false_eq_true, if_false]
      exact wpAny_pure ⟨rfl, rfl, hr⟩
  · rintro ⟨r1, r2⟩ s' ⟨e, rfl, _⟩
    simp only at e
    subst e
    exact wpAny_pure q
end
end Kn


/-! Kn: tables of sets of one size more: 16 places, as a dict of five to seven keys has them laid. -/
namespace Kn
open PySem PySem.Spec PyProof.Rows L2
/-- the masks: those of a set that grows by itself, and one of a dict's -/
def MaskX (m : Nat) : Prop := MaskOk m ∨ m = 15
theorem MaskX.odd {m : Nat} (h : MaskX m) : m % 2 = 1 := h.elim mask_odd fun e => by rw [e]
theorem MaskX.top {m : Nat} (h : MaskX m) : m ≤ 127 := by
  rcases h with (e | e | e) | e <;> omega
theorem ring15 : ((List.range 16).all fun i => (List.range 16).all fun j => (List.range 16).any fun c => lcgI 15 i c == j) = true := by decide +kernel
theorem MaskX.meets {m : Nat} (hm : MaskX m) (h : Int) {j : Nat} (hj : j ≤ m) : ∃ c, c < 10 * SetTable.turns m ∧ way m h c = j := by
  rcases hm with ok | rfl
  · exact nth_meets ok h hj
  · have z := List.all_eq_true.mp ring15 _ (List.mem_range.mpr (Nat.lt_succ_of_le (runI_le 15 (SetTable.bits h) 12)))
    obtain ⟨c, hc, e⟩ := List.any_eq_true.mp (List.all_eq_true.mp z j (List.mem_range.mpr (by omega)))
    have hc := List.mem_range.mp hc
    obtain ⟨q, hq, e2⟩ := run_nth 15 (SetTable.bits h) (12 + c)
    refine ⟨q, ?_, ?_⟩
    · show q < 10 * 30
      omega
    · show (nth 15 (runAt 15 (SetTable.bits h % (15 + 1)) (SetTable.bits h)) q).j = j
      rw [e2, runI_tail (bits_lt h)]
      exact beq_iff_eq.mp e
theorem way_in (m : Nat) (h : Int) (c : Nat) : way m h c ≤ m := by
  have a : SetTable.bits h % (m + 1) ≤ m := Nat.le_of_lt_succ (Nat.mod_lt _ (Nat.succ_pos _))
  have b := runEnd_bd a
  have z := nth_in c (runAt m (SetTable.bits h % (m + 1)) (SetTable.bits h)) (show SetTable.bits h % (m + 1) + (SetTable.runEnd m (SetTable.bits h % (m + 1)) - SetTable.bits h % (m + 1)) ≤ m by omega)
  exact Nat.le_trans (Nat.le_add_right _ _) z
/-- a table in which each hash is found on its way -/
structure TabX (t : SetTable) (hs : List Int) : Prop where
  asc : Ris t.place.toList
  bare : t.dummies = #[]
  many : t.place.size = hs.length
  mask : MaskX t.mask
  low : ∀ p ∈ t.place.toList, p ≤ t.mask
  met : ∀ (n : Nat) (h : Int) (p : Nat), hs[n]? = some h → t.place.toList[n]? = some p → ∃ c, way t.mask h c = p ∧ ∀ b, b < c → way t.mask h b ∈ t.place.toList
section
variable {t : SetTable} {hs : List Int}
theorem TabX.of (T : TabOk t hs) : TabX t hs := ⟨T.ris, T.dm, T.sz, .inl T.mok, T.bd, T.reach⟩
theorem TabX.long (T : TabX t hs) : t.place.toList.length = hs.length := by rw [Array.length_toList, T.many]
theorem TabX.hole (T : TabX t hs) (few : hs.length ≤ t.mask) (h : Int) : ∃ K, K < 10 * SetTable.turns t.mask ∧ way t.mask h K ∉ t.place.toList ∧ ∀ c, c < K → way t.mask h c ∈ t.place.toList := by
  obtain ⟨j, lj, nj⟩ := st_missing t.place.toList (t.mask + 1) (by rw [T.long]; omega)
  obtain ⟨c, lc, ec⟩ := T.mask.meets h (Nat.le_of_lt_succ lj)
  obtain ⟨K, lK, nK, old⟩ := st_least (p := fun c => way t.mask h c ∉ t.place.toList) c (fun z => nj (ec ▸ z))
  exact ⟨K, Nat.lt_of_le_of_lt lK lc, nK, fun b hb => Classical.byContradiction fun z => old b hb z⟩
theorem TabX.ahead (T : TabX t hs) {h : Int} {K n p : Nat} (nK : way t.mask h K ∉ t.place.toList) (hn : hs[n]? = some h) (hp : t.place.toList[n]? = some p) : ∃ c, c < K ∧ way t.mask h c = p := by
  obtain ⟨c, e, full⟩ := T.met n h p hn hp
  refine ⟨c, Nat.lt_of_not_le fun le => nK ?_, e⟩
  rcases Nat.eq_or_lt_of_le le with z | z
  · rw [z, e]; exact List.mem_of_getElem? hp
  · exact full K z
/-- one more, at the first empty place of its way -/
theorem TabX.grow (T : TabX t hs) {h : Int} {K j : Nat} (ej : way t.mask h K = j) (nj : j ∉ t.place.toList) (full : ∀ c, c < K → way t.mask h c ∈ t.place.toList) :
    SetTable.below t.place j ≤ hs.length ∧ TabX (t.put j).1 (hs.take (SetTable.below t.place j) ++ h :: hs.drop (SetTable.below t.place j)) ∧ (t.put j).1.fill = hs.length + 1 := by
  obtain ⟨lb, _, _⟩ := below_cut T.asc j
  have pl := put_place t j
  have dm := put_dm T.bare j
  have lo := T.long
  have new : t.place[SetTable.below t.place j]? ≠ some j := fun e => nj (List.mem_of_getElem? ((Array.getElem?_toList ..).trans e))
  have rs := ris_insert T.asc new
  have lh : SetTable.below t.place j ≤ hs.length := T.many ▸ lb
  have lp : SetTable.below t.place j ≤ t.place.toList.length := lo ▸ lh
  generalize SetTable.below t.place j = p at pl lh lp
  have len : (t.put j).1.place.size = hs.length + 1 := by rw [← Array.length_toList, pl, len_ins _ lp, lo]
  have inn : ∀ {x : Nat}, x ∈ (t.put j).1.place.toList ↔ x = j ∨ x ∈ t.place.toList := by
    intro x
    rw [pl]
    exact mem_ins
  refine ⟨lh, ⟨rs, dm, by rw [len, len_ins _ lh], T.mask, fun x hx => ?_, fun n h' p' e1 e2 => ?_⟩, by show _ + _ = _; rw [len, dm]; rfl⟩
  · rcases inn.mp hx with z | z
    · rw [z, ← ej]; exact way_in _ _ _
    · exact T.low x z
  · have wide : ∀ {c : Nat} {g : Int}, (∀ b, b < c → way t.mask g b ∈ t.place.toList) → ∀ b, b < c → way t.mask g b ∈ (t.put j).1.place.toList := fun f b hb => inn.mpr (.inr (f b hb))
    rw [tins_get hs lh] at e1
    rw [pl, tins_get _ lp] at e2
    rcases Nat.lt_trichotomy n p with z | z | z
    · rw [if_pos z] at e1 e2
      obtain ⟨c, a, b⟩ := T.met n h' p' e1 e2
      exact ⟨c, a, wide b⟩
    · rw [if_neg (by omega), if_pos z] at e1 e2
      cases e1
      cases e2
      exact ⟨K, ej, wide full⟩
    · rw [if_neg (by omega), if_neg (by omega)] at e1 e2
      obtain ⟨c, a, b⟩ := T.met (n - 1) h' p' e1 e2
      exact ⟨c, a, wide b⟩
end
end Kn


/-! Kn: a set of keys of any depth, and looking for one in it. -/
namespace Kn
open PySem PySem.Spec PyProof.Rows L2
abbrev Mem := Addr × NestedKey
abbrev hk (w : World) (m : Mem) : Int := m.2.hash w
abbrev cell (w : World) (m : Mem) : Int × Value := (hk w m, Value.ref m.1)
/-- what stands in the table -/
structure Tab (w : World) (C : Nat) (M : List Mem) (es : Array (Int × Value)) (t : SetTable) : Prop where
  rows : es.toList = M.map (cell w)
  ok : TabX t (M.map (hk w))
  led : w.params.followText "set-order" = true ∨ t.led = true
  air : M.length * 5 < t.mask * 3
  nd : (M.map (·.2)).Nodup
  few : M.length < 64
  cap : t.mask = 15 → C ≤ 8
section
variable {P : Program} {w : World} {A : Around} {E : Value → Shared → Prop} {s : Shared} {a : Addr} {M : List Mem} {es : Array (Int × Value)} {ep C : Nat} {t : SetTable}
theorem Tab.size (T : Tab w C M es t) : es.size = M.length := by
  rw [← Array.length_toList, T.rows, List.length_map]
theorem Tab.fits (T : Tab w C M es t) : t.fits es.size = true := by
  have z1 := T.ok.many
  rw [List.length_map] at z1
  have z2 := T.size
  have z3 := T.air
  unfold SetTable.fits SetTable.fill
  rw [T.ok.bare, Bool.and_eq_true]
  exact ⟨beq_iff_eq.mpr (by omega), decide_eq_true (by show t.place.size + 0 ≤ t.mask; omega)⟩
theorem Tab.at_ (T : Tab w C M es t) {i : Nat} {m : Mem} (h : M[i]? = some m) : es[i]? = some (cell w m) := by
  have z : es.toList[i]? = some (cell w m) := by rw [T.rows, List.getElem?_map, h]; rfl
  rwa [Array.getElem?_toList] at z
theorem Tab.hash_at (T : Tab w C M es t) {i : Nat} {m : Mem} (h : M[i]? = some m) : (es[i]?.map (·.1)).getD 0 = hk w m := by
  rw [T.at_ h]
  rfl
/-- the c-th place of the way of a hash -/
abbrev stepOf (t : SetTable) (h : Int) (c : Nat) : SetTable.Probe := nth t.mask (runAt t.mask (SetTable.bits h % (t.mask + 1)) (SetTable.bits h)) c
theorem step_j (t : SetTable) (h : Int) (c : Nat) : (stepOf t h c).j = way t.mask h c := rfl
theorem step_add (t : SetTable) (h : Int) (c q : Nat) : nth t.mask (stepOf t h c) q = stepOf t h (c + q) := (nth_add t.mask c _ q).symm
theorem nth_dummy (m : Nat) : ∀ (n : Nat) (p : SetTable.Probe), p.dummy = none → (nth m p n).dummy = none
  | 0, _, h => h
  | n + 1, p, h => nth_dummy m n (adv m p) (by unfold adv; split <;> exact h)
theorem step_dummy (t : SetTable) (h : Int) (c : Nat) : (stepOf t h c).dummy = none := nth_dummy t.mask c _ rfl
/-- looking for x, from the c-th place on; K is the first empty one -/
theorem look_from {o : Obj} (T : Tab w C M es t) (ho : s.heap.get? a = some o) (hd : o.data = .set es ep t) (keys : ∀ m ∈ M, KeyAt s.heap m) {x : Mem} (hx : KeyAt s.heap x) (hu : A.units + 8 < cLine) {K : Nat} (few : K < 10 * SetTable.turns t.mask)
    (free : way t.mask (hk w x) K ∉ t.place.toList) (full : ∀ c, c < K → way t.mask (hk w x) c ∈ t.place.toList) {Q : SetFound → Shared → Prop}
    (yes : x.2 ∈ M.map (·.2) → Q (.there none) s) (no : x.2 ∉ M.map (·.2) → Q (.free (way t.mask (hk w x) K) false) s) :
    ∀ (f c : Nat) (st : Option SetTable.Probe), st.getD (t.probeStart (hk w x)) = stepOf t (hk w x) c → c ≤ K → K - c < f →
      (∀ (i : Nat) (m : Mem), M[i]? = some m → m.2 = x.2 → ∃ c', c ≤ c' ∧ c' < K ∧ t.place.toList[i]? = some (way t.mask (hk w x) c')) →
      wpAny (model P w) A (setSearchFrom a (.ref x.1) (hk w x) true f st) Q E s := by
  intro f
  induction f with
  | zero => exact fun c st _ _ hf _ => absurd hf (Nat.not_lt_zero _)
  | succ f ih =>
    intro c st hst hc hf left
    rw [setSearchFrom_succ]
    refine wpAny_bind (wpAny_setState_of ho hd T.fits ?_)
    dsimp only
    have gw : ¬ t.gaveWay = true := by
      unfold SetTable.gaveWay
      rw [T.ok.mask.odd]
      decide
    refine wp_if_neg gw ?_
    try refine wpAny_bind (wpAny_pure ?_)
    have sp := go_spec t T.ok.asc T.ok.bare (fun i => (es[i]?.map (·.1)).getD 0) (hk w x) (10 * SetTable.turns t.mask) (K - c) (stepOf t (hk w x) c) (step_dummy t _ c) (by omega)
      (fun q hq => by rw [step_add, step_j]; exact full _ (by omega)) (by rw [step_add, step_j, Nat.add_sub_cancel' hc]; exact free)
    -- one that is passed has another key
    have passed : ∀ (q : Nat), (∀ (q' i' : Nat), q' < q → t.place.toList[i']? = some (nth t.mask (stepOf t (hk w x) c) q').j → (es[i']?.map (·.1)).getD 0 ≠ hk w x) →
        ∀ (i : Nat) (m : Mem), M[i]? = some m → m.2 = x.2 → ∀ c', c ≤ c' → c' < c + q → t.place.toList[i]? ≠ some (way t.mask (hk w x) c') := by
      intro q nq i m hi hm c' h1 h2 h3
      refine nq (c' - c) i (by omega) (by rw [step_add, step_j, Nat.add_sub_cancel' h1]; exact h3) ?_
      rw [T.hash_at hi]
      exact congrArg (NestedKey.hash w) hm
    rcases sp with ⟨q, i, hq, hi, hh, nq, pr⟩ | ⟨nq, pr⟩
    · have pr' : t.probe (fun i => (es[i]?.map (·.1)).getD 0) (hk w x) (st.getD (t.probeStart (hk w x))) = some (.candidate (way t.mask (hk w x) (c + q)) i (stepOf t (hk w x) (c + (q + 1)))) := by
        rw [hst, ← step_j, ← step_add t (hk w x) c q, ← step_add t (hk w x) c (q + 1)]
        exact pr
      rw [step_add, step_j] at hi
      have inM : i < M.length := by
        have z1 := (List.getElem?_eq_some_iff.mp hi).1
        have z2 := T.ok.many
        rw [List.length_map] at z2
        rw [Array.length_toList] at z1
        omega
      obtain ⟨m, hm⟩ : ∃ m, M[i]? = some m := ⟨M[i], List.getElem?_eq_getElem inM⟩
      have mM := List.mem_of_getElem? hm
      have km := keys m mM
      have live : t.slot (way t.mask (hk w x) (c + q)) = .live i := slot_live T.ok.asc hi
      rw [pr']
      dsimp only
      have rest : wpAny (model P w) A (searchRest a (.ref x.1) (hk w x) true f es t (way t.mask (hk w x) (c + q)) i (stepOf t (hk w x) (c + (q + 1)))) Q E s := by
        unfold searchRest
        rw [T.at_ hm]
        dsimp only
        refine wpAny_bind (wpAny_holding ((nestedKind P w).eqBool (show A.units + 8 < cLine from hu) (x := m.2) (y := x.2) km hx ?_))
        refine wpAny_bind (wpAny_setState_of ho hd T.fits ?_)
        dsimp only
        by_cases same : m.2 = x.2
        · exact wp_if_pos (by simp [same]) (wpAny_pure (yes (List.mem_map.mpr ⟨m, mM, same⟩)))
        · refine wp_if_neg (by simp [same]) ?_
          try refine wpAny_bind (wpAny_pure ?_)
          rw [sameMem]
          dsimp only
          simp only [if_true, live, T.at_ hm]
          refine wpAny_bind (wpAny_isSame_ref_self (wpAny_bind (wpAny_pure ?_)))
          simp only [if_true]
          refine wp_if_neg (by simp [same]) (ih (c + (q + 1)) _ rfl (by omega) (by omega) fun i' m' hi' hm' => ?_)
          obtain ⟨c', b1, b2, b3⟩ := left i' m' hi' hm'
          refine ⟨c', ?_, b2, b3⟩
          rcases Nat.lt_trichotomy c' (c + q) with z | z | z
          · exact absurd b3 (passed q nq i' m' hi' hm' c' b1 z)
          · rw [z] at b3
            have e := (slot_live T.ok.asc b3).symm.trans live
            injection e with e
            rw [e, hm] at hi'
            exact absurd (congrArg Prod.snd (Option.some.inj hi') ▸ hm') same
          · omega
      by_cases ld : t.led = true
      · refine wp_if_neg (by simp [ld]) ?_
        try refine wpAny_bind (wpAny_pure ?_)
        exact rest
      · refine wp_if_pos (by simp [ld]) (wpAny_bind (unseen hx _ (fun y hy => ?_) _ _ _ ?_))
        · obtain ⟨e, he, rfl⟩ := List.mem_map.mp hy
          have he : e ∈ es.toList := by
            have z : e ∈ es ∧ e.1 = hk w x := by simpa using he
            simpa using z.1
          rw [T.rows] at he
          obtain ⟨m', hm', rfl⟩ := List.mem_map.mp he
          exact ⟨m', rfl, keys m' hm'⟩
        · refine wp_if_neg (by decide) ?_
          try refine wpAny_bind (wpAny_pure ?_)
          exact rest
    · have pr' : t.probe (fun i => (es[i]?.map (·.1)).getD 0) (hk w x) (st.getD (t.probeStart (hk w x))) = some (.empty (way t.mask (hk w x) K) none) := by
        rw [hst, show way t.mask (hk w x) K = (nth t.mask (stepOf t (hk w x) c) (K - c)).j by rw [step_add, step_j, Nat.add_sub_cancel' hc]]
        exact pr
      rw [pr']
      dsimp only
      refine wpAny_pure (no fun there => ?_)
      obtain ⟨m, hm, e⟩ := List.mem_map.mp there
      obtain ⟨i, li, ei⟩ := List.getElem_of_mem hm
      have hi : M[i]? = some m := by rw [List.getElem?_eq_getElem li, ei]
      obtain ⟨c', b1, b2, b3⟩ := left i m hi e
      exact passed (K - c) nq i m hi e c' b1 (by omega) b3
/-- looking for x, to add it -/
theorem look {o : Obj} (T : Tab w C M es t) (ho : s.heap.get? a = some o) (hd : o.data = .set es ep t) (keys : ∀ m ∈ M, KeyAt s.heap m) {x : Mem} (hx : KeyAt s.heap x) (hu : A.units + 8 < cLine) {Q : SetFound → Shared → Prop}
    (yes : x.2 ∈ M.map (·.2) → Q (.there none) s)
    (no : ∀ K, x.2 ∉ M.map (·.2) → way t.mask (hk w x) K ∉ t.place.toList → (∀ c, c < K → way t.mask (hk w x) c ∈ t.place.toList) → Q (.free (way t.mask (hk w x) K) false) s) :
    wpAny (model P w) A (setSearch a (.ref x.1) (hk w x) true) Q E s := by
  have air := T.air
  obtain ⟨K, k1, k2, k3⟩ := T.ok.hole (by rw [List.length_map]; omega) (hk w x)
  have big : K < 100000 := by
    have z : 10 * SetTable.turns t.mask ≤ 1420 := by
      unfold SetTable.turns
      have := T.ok.mask.top
      omega
    omega
  unfold setSearch
  refine look_from T ho hd keys hx hu k1 k2 k3 yes (fun n => no K n k2 k3) 100000 0 none rfl (Nat.zero_le _) (by omega) fun i m hi hm => ?_
  have h1 : (M.map (hk w))[i]? = some (hk w x) := by
    rw [List.getElem?_map, hi]
    exact congrArg some (congrArg (NestedKey.hash w) hm)
  have li : i < t.place.toList.length := by
    have z1 := (List.getElem?_eq_some_iff.mp hi).1
    have z2 := T.ok.many
    rw [List.length_map] at z2
    rw [Array.length_toList]
    omega
  obtain ⟨c, hc, e⟩ := T.ok.ahead k2 h1 (List.getElem?_eq_getElem li)
  exact ⟨c, Nat.zero_le _, hc, by rw [List.getElem?_eq_getElem li, e]⟩
end
end Kn


/-! Kn: adding a key to a set. -/
namespace Kn
open PySem PySem.Spec PyProof.Rows L2
structure KSetN (w : World) (C : Nat) (h : Heap) (a : Addr) (M : List Mem) : Prop where
  ex : ∃ o es ep t, h.get? a = some o ∧ o.ExactSet ∧ o.data = .set es ep t ∧ Tab w C M es t
section
variable {P : Program} {w : World} {A : Around} {E : Value → Shared → Prop} {s : Shared} {a : Addr} {M : List Mem} {C : Nat}
theorem KSetN.move {h h' : Heap} (R : KSetN w C h a M) (k : ∀ o, h.get? a = some o → h'.get? a = some o) : KSetN w C h' a M := by
  obtain ⟨o, es, ep, t, ho, z⟩ := R.ex
  exact ⟨o, es, ep, t, k o ho, z⟩
theorem KeyAt.move {h h' : Heap} {m : Mem} (x : KeyAt h m) (k : ∀ b o, h.get? b = some o → h'.get? b = some o) : KeyAt h' m := ⟨NestedIs.at (fun b o _ _ e _ => k b o e) _ _ x.1, x.2⟩
/-- the set itself is no key -/
theorem KeyAt.same {h h' : Heap} {m : Mem} {o : Obj} {es : Array (Int × Value)} {ep : Nat} {t : SetTable} (x : KeyAt h m) (ho : h.get? a = some o) (hd : o.data = .set es ep t) (sb : Heap.SameBut a h h') : KeyAt h' m := by
  refine ⟨NestedIs.at (fun b ob vs n e d => ?_) _ _ x.1, x.2⟩
  by_cases z : b = a
  · subst z
    rw [ho] at e
    cases e
    rw [hd] at d
    cases d
  · exact (sb.2 b z).trans e
theorem picked {L : List Mem} : ∀ {idx : List Nat}, (∀ i ∈ idx, i < L.length) → ∀ {es : Array (Int × Value)}, es.toList = L.map (cell w) →
    idx.filterMap (fun i => es[i]?) = (idx.filterMap fun i => L[i]?).map (cell w) ∧ ((idx.filterMap fun i => L[i]?).map (hk w)) = idx.map fun i => (es.map (·.1)).getD i 0
  | [], _, _, _ => ⟨rfl, rfl⟩
  | i :: r, h, es, e => by
    obtain ⟨h1, h2⟩ := picked (fun j hj => h j (List.mem_cons_of_mem _ hj)) e
    have hi := h i (List.mem_cons_self ..)
    have a1 : es[i]? = some (cell w L[i]) := by
      rw [← Array.getElem?_toList, e, List.getElem?_map, List.getElem?_eq_getElem hi]
      rfl
    have a2 : (es.map (·.1)).getD i 0 = hk w L[i] := by
      rw [Array.getD_eq_getD_getElem?, Array.getElem?_map, a1]
      rfl
    refine ⟨?_, ?_⟩
    · rw [List.filterMap_cons_some a1, List.filterMap_cons_some (List.getElem?_eq_getElem hi), h1, List.map_cons]
    · rw [List.filterMap_cons_some (List.getElem?_eq_getElem hi), List.map_cons, List.map_cons, h2, a2]
theorem all_range (L : List Mem) : (List.range L.length).filterMap (fun i => L[i]?) = L := by
  have go : ∀ n, n ≤ L.length → (List.range n).filterMap (fun i => L[i]?) = L.take n := by
    intro n
    induction n with
    | zero => exact fun _ => rfl
    | succ n ih =>
      intro hn
      rw [List.range_succ, List.filterMap_append, ih (Nat.le_of_succ_le hn), List.take_add_one, List.getElem?_eq_getElem (show n < L.length from hn)]
      simp [List.getElem?_eq_getElem (show n < L.length from hn)]
  rw [go _ (Nat.le_refl _), List.take_length]
/-- the table is laid anew, larger -/
theorem set_relay {o : Obj} {es : Array (Int × Value)} {ep : Nat} {t : SetTable} (ho : s.heap.get? a = some o) (hx : o.ExactSet) (hd : o.data = .set es ep t) (rows : es.toList = M.map (cell w)) (ok : TabX t (M.map (hk w))) (fit : M.length ≤ t.mask)
    (led : w.params.followText "set-order" = true ∨ t.led = true) (nd : (M.map (·.2)).Nodup) (few : M.length < 64) {want N : Nat} (hw : SetTable.sizeAbove want - 1 = N) (hN : MaskOk N) (h128 : SetTable.sizeAbove want ≤ 128) (air : M.length * 5 < N * 3)
    {Q : Unit → Shared → Prop} (q : ∀ h' M', Heap.SameBut a s.heap h' → KSetN w C h' a M' → M'.Perm M → Q () { s with heap := h' }) : wpAny (model P w) A (setRelay a want) Q E s := by
  have sz : es.size = M.length := by rw [← Array.length_toList, rows, List.length_map]
  have fits : t.fits es.size = true := by
    have z := ok.many
    rw [List.length_map] at z
    unfold SetTable.fits SetTable.fill
    rw [ok.bare, Bool.and_eq_true]
    exact ⟨beq_iff_eq.mpr (by omega), decide_eq_true (by show t.place.size + 0 ≤ t.mask; omega)⟩
  obtain ⟨t', ord, e, perm, T, em, el, _, _⟩ := relaid_ok t (hs := es.map (·.1)) hw hN (by rw [Array.size_map]; omega)
  rw [Array.size_map, sz] at perm
  obtain ⟨r1, r2⟩ := picked (w := w) (L := M) (idx := ord.toList) (fun i hi => List.mem_range.mp (perm.mem_iff.mp hi)) rows
  have p2 : (ord.toList.filterMap fun i => M[i]?).Perm M := by
    have z := perm.filterMap fun i => M[i]?
    rwa [all_range] at z
  rw [← r2] at T
  generalize (ord.toList.filterMap fun i => M[i]?) = M' at r1 r2 p2 T
  have l2 : (ord.filterMap (es[·]?)).toList = M'.map (cell w) := by
    rw [Array.toList_filterMap]
    exact r1
  have s2 : (ord.filterMap (es[·]?)).size = es.size := by
    rw [← Array.length_toList, l2, List.length_map, p2.length_eq, sz]
  rw [setRelay_eq]
  refine wpAny_bind (wpAny_setState_of ho hd fits ?_)
  dsimp only
  refine wp_if_neg (by rw [sizeLine_eq]; omega) ?_
  try refine wpAny_bind (wpAny_pure ?_)
  rw [e]
  dsimp only
  refine wpAny_bind (wp_if_neg (by rw [s2]; simp) ?_)
  try refine wpAny_bind (wpAny_pure ?_)
  refine wpAny_pure ?_
  dsimp only
  refine wpAny_storeSet_of ho hd ?_ (by rw [s2, sizeLine_eq]; omega)
  refine q _ M' (Heap.SameBut.update ..) ⟨_, _, _, t', store_at ho hd, ⟨hx.1, hx.2.1, hx.2.2⟩, rfl, l2, TabX.of T, by rw [el]; exact led, by rw [p2.length_eq, em]; exact air, (p2.map (·.2)).nodup_iff.mpr nd, by rw [p2.length_eq]; exact few, fun e => by rw [em] at e; rcases hN with z | z | z <;> omega⟩ p2
theorem TabX.plain {t : SetTable} {hs : List Int} (T : TabX t hs) (b : Bool) : TabX { t with plain := b } hs := ⟨T.asc, T.bare, T.many, T.mask, T.low, T.met⟩
/-- the end of adding: the table is stored, and laid anew where it got too full -/
theorem set_put {o : Obj} {es es1 : Array (Int × Value)} {ep : Nat} {t0 t : SetTable} {M1 : List Mem} (ho : s.heap.get? a = some o) (hx : o.ExactSet) (hd : o.data = .set es ep t0) (rows : es1.toList = M1.map (cell w)) (ok : TabX t (M1.map (hk w)))
    (led : w.params.followText "set-order" = true ∨ t.led = true) (nd : (M1.map (·.2)).Nodup) (few : M1.length < 64) (old : (M1.length - 1) * 5 < t.mask * 3) (pos : 0 < M1.length) (fill : t.fill = M1.length) (cap : t.mask = 15 → C ≤ 8) (lc : M1.length ≤ C) {n : Nat} (hn : n + 1 = M1.length)
    {Q : Bool → Shared → Prop} (q : ∀ h' M', Heap.SameBut a s.heap h' → KSetN w C h' a M' → M'.Perm M1 → Q true { s with heap := h' }) :
    wpAny (model P w) A (do
      storeSet a es1 t
      if (!false && t.tooFull) = true then setRelay a (SetTable.grown (n + 1))
      pure true) Q E s := by
  have sz : es1.size = M1.length := by rw [← Array.length_toList, rows, List.length_map]
  refine wpAny_bind (wpAny_storeSet_of ho hd ?_ (by rw [sz, sizeLine_eq]; omega))
  have sb : Heap.SameBut a s.heap (s.heap.update a (Obj.putSet es1 t)) := Heap.SameBut.update ..
  have o1 := store_at (es' := es1) (t' := t) ho hd
  generalize s.heap.update a (Obj.putSet es1 t) = h1 at sb o1 ⊢
  by_cases full : t.tooFull = true
  · have big : M1.length * 5 ≥ t.mask * 3 := by
      have z := full
      unfold SetTable.tooFull at z
      rw [decide_eq_true_eq, fill] at z
      exact z
    have two : (t.mask = 7 ∧ n = 4) ∨ (t.mask = 31 ∧ n = 18) := by
      rcases ok.mask with (e | e | e) | e
      · exact .inl ⟨e, by omega⟩
      · exact .inr ⟨e, by omega⟩
      · omega
      · have := cap e
        omega
    have go : ∀ N, SetTable.sizeAbove (SetTable.grown (n + 1)) - 1 = N → MaskOk N → SetTable.sizeAbove (SetTable.grown (n + 1)) ≤ 128 → M1.length * 5 < N * 3 →
        wpAny (model P w) A (setRelay a (SetTable.grown (n + 1))) (fun _ s' => wpAny (model P w) A (pure true) Q E s') E { s with heap := h1 } := fun N e1 e2 e3 e4 =>
      set_relay (s := { s with heap := h1 }) o1 ⟨hx.1, hx.2.1, hx.2.2⟩ rfl rows ok (by rcases two with ⟨z, y⟩ | ⟨z, y⟩ <;> omega) led nd few e1 e2 e3 e4 fun h2 M2 sb2 R2 pm => wpAny_pure (q h2 M2 (sb.trans sb2) R2 pm)
    simp only [full, Bool.not_false, Bool.and_self, if_true]
    refine wpAny_bind ?_
    rcases two with ⟨_, y⟩ | ⟨_, y⟩
    · exact go 31 (by rw [y, size_20]) (.inr (.inl rfl)) (by rw [y, size_20]; decide) (by omega)
    · exact go 127 (by rw [y, size_76]) (.inr (.inr rfl)) (by rw [y, size_76]; decide) (by omega)
  · have room : M1.length * 5 < t.mask * 3 := by
      have z := full
      unfold SetTable.tooFull at z
      rw [decide_eq_true_eq, fill] at z
      omega
    simp only [full, Bool.and_false, Bool.false_eq_true, if_false]
    try refine wpAny_bind (wpAny_pure ?_)
    exact wpAny_pure (q h1 M1 sb ⟨_, _, _, t, o1, ⟨hx.1, hx.2.1, hx.2.2⟩, rfl, rows, ok, led, room, nd, few, cap⟩ (List.Perm.refl _))
/-- adding -/
theorem set_add (R : KSetN w C s.heap a M) (keys : ∀ m ∈ M, KeyAt s.heap m) {x : Mem} (hx : KeyAt s.heap x) (hu : A.units + 8 < cLine) (few : M.length + 1 < 64) (lc : M.length + 1 ≤ C) {Q : Bool → Shared → Prop}
    (q : ∀ b h' M', Heap.SameBut a s.heap h' → KSetN w C h' a M' → (x.2 ∈ M.map (·.2) → M' = M) → (x.2 ∉ M.map (·.2) → M'.Perm (x :: M)) → (∀ m ∈ M', KeyAt h' m) → Q b { s with heap := h' }) :
    wpAny (model P w) A (setAddHashed a (.ref x.1) (hk w x)) Q E s := by
  obtain ⟨o, es, ep, t, ho, hex, hd, T⟩ := R.ex
  have air := T.air
  unfold setAddHashed
  refine wpAny_holding ?_
  rw [show (100000 : Nat) = 99999 + 1 from rfl, setAddHashedIn_succ]
  refine wpAny_bind (wpAny_setState_of ho hd T.fits ?_)
  dsimp only
  refine wp_if_neg (by simp [byScan, Value.scannable]) ?_
  try refine wpAny_bind (wpAny_pure ?_)
  refine wpAny_bind (look T ho hd keys hx hu (fun there => ?_) fun K new free full => ?_)
  · dsimp only
    exact wpAny_pure (q false s.heap M (Heap.SameBut.refl a s.heap) R (fun _ => rfl) (fun z => absurd there z) keys)
  · dsimp only
    refine wpAny_bind (wpAny_setState_of ho hd T.fits ?_)
    dsimp only
    obtain ⟨b, hb⟩ := key_byv (P := P) (w := w) _ _ 8 s hx.1 hx.2
    obtain ⟨q2, q3, q9⟩ := T.ok.grow (j := way t.mask (hk w x) K) rfl free full
    have q1 : (t.put (way t.mask (hk w x) K)).2 = SetTable.below t.place (way t.mask (hk w x) K) := rfl
    have q4 : (t.put (way t.mask (hk w x) K)).1.mask = t.mask := rfl
    have q5 : (t.put (way t.mask (hk w x) K)).1.led = t.led := rfl
    generalize t.put (way t.mask (hk w x) K) = pt at q1 q3 q4 q5 q9 ⊢
    obtain ⟨t1, p⟩ := pt
    dsimp only at q1 q3 q4 q5 q9 ⊢
    subst q1
    have rows : (SetTable.insertAt es (SetTable.below t.place (way t.mask (hk w x) K)) (hk w x, Value.ref x.1)).toList = (M.take (SetTable.below t.place (way t.mask (hk w x) K)) ++ x :: M.drop (SetTable.below t.place (way t.mask (hk w x) K))).map (cell w) := by
      rw [SetTable.toList_insertAt, T.rows, List.map_append, List.map_cons, List.map_take, List.map_drop]
    have hs : (M.map (hk w)).take (SetTable.below t.place (way t.mask (hk w x) K)) ++ hk w x :: (M.map (hk w)).drop (SetTable.below t.place (way t.mask (hk w x) K)) = (M.take (SetTable.below t.place (way t.mask (hk w x) K)) ++ x :: M.drop (SetTable.below t.place (way t.mask (hk w x) K))).map (hk w) := by
      rw [List.map_append, List.map_cons, List.map_take, List.map_drop]
    rw [hs] at q3
    have pm := put_perm M (SetTable.below t.place (way t.mask (hk w x) K)) x
    generalize SetTable.below t.place (way t.mask (hk w x) K) = p at q2 q3 rows pm ⊢
    generalize M.take p ++ x :: M.drop p = M1 at q3 rows pm
    have len : M1.length = M.length + 1 := pm.length_eq
    have nd1 : (M1.map (·.2)).Nodup := by
      refine (pm.map (·.2)).nodup_iff.mpr ?_
      rw [List.map_cons]
      exact List.nodup_cons.mpr ⟨new, T.nd⟩
    generalize SetTable.insertAt es p (hk w x, Value.ref x.1) = es1 at rows ⊢
    rw [List.length_map] at q9
    have fin : ∀ (c : Bool), wpAny (model P w) A (do
        storeSet a es1 { t1 with plain := c }
        if (!false && ({ t1 with plain := c } : SetTable).tooFull) = true then setRelay a (SetTable.grown (M.length + 1))
        pure true) Q E s := fun c =>
      set_put (M1 := M1) ho hex hd rows (TabX.plain q3 c) (by show _ ∨ t1.led = true; rw [q5]; exact T.led) nd1 (by omega) (by show (M1.length - 1) * 5 < t1.mask * 3; rw [q4]; omega) (by omega) (by show t1.fill = _; omega) (by show t1.mask = 15 → _; rw [q4]; exact T.cap) (by omega) (by omega)
        fun h' M' sb R' pm' => q true h' M' sb R' (fun z => absurd z new) (fun _ => pm'.trans pm) fun m hm => by
          rcases List.mem_cons.mp (pm.mem_iff.mp (pm'.mem_iff.mp hm)) with e | hm
          · rw [e]
            exact hx.same ho hd sb
          · exact (keys m hm).same ho hd sb
    have same : ∀ c : Bool, t1.plain = c → ({ t1 with plain := c } : SetTable) = t1 := fun c e => by subst e; rfl
    have sz := T.size
    rw [sz]
    cases pl : t1.plain
    · have f := fin false
      rw [same false pl] at f
      simp only [Bool.false_eq_true, if_false]
      first
        | exact wpAny_bind (wpAny_pure f)
        | exact f
    · simp only [if_true]
      refine wpAny_bind (hb _ _ _ ?_)
      cases b
      · simp only [Bool.false_eq_true, if_false]
        exact fin false
      · have f := fin true
        rw [same true pl] at f
        simp only [if_true]
        exact f
structure KSet (w : World) (h : Heap) (a : Addr) (M : List Mem) : Prop where
  ex : ∃ C, KSetN w C h a M
theorem KSet.move {h h' : Heap} (R : KSet w h a M) (k : ∀ o, h.get? a = some o → h'.get? a = some o) : KSet w h' a M := by
  obtain ⟨C, z⟩ := R.ex
  exact ⟨C, z.move k⟩
end
end Kn


/-! Kn: set(a list of keys), and sorted of a set of keys. -/
namespace Kn
open PySem PySem.Spec PyProof.Rows L2
/-- what a set has got of these items -/
structure Of (ms M : List Mem) : Prop where
  sub : ∀ m ∈ M, m ∈ ms
  all : ∀ m ∈ ms, m.2 ∈ M.map (·.2)
  len : M.length ≤ ms.length
theorem Of.nil : Of [] [] := ⟨fun _ h => (by cases h), fun _ h => (by cases h), Nat.le_refl _⟩
theorem Of.old {ms M : List Mem} {x : Mem} (g : Of ms M) (h : x.2 ∈ M.map (·.2)) : Of (ms ++ [x]) M := by
  refine ⟨fun m hm => List.mem_append_left _ (g.sub m hm), fun m hm => ?_, by rw [List.length_append]; have := g.len; omega⟩
  rcases List.mem_append.mp hm with z | z
  · exact g.all m z
  · rw [List.mem_singleton.mp z]
    exact h
theorem Of.new {ms M M' : List Mem} {x : Mem} (g : Of ms M) (p : M'.Perm (x :: M)) : Of (ms ++ [x]) M' := by
  refine ⟨fun m hm => ?_, fun m hm => ?_, ?_⟩
  · rcases List.mem_cons.mp (p.mem_iff.mp hm) with z | z
    · rw [z]
      exact List.mem_append_right _ (List.mem_singleton.mpr rfl)
    · exact List.mem_append_left _ (g.sub m z)
  · rw [(p.map (·.2)).mem_iff, List.map_cons]
    rcases List.mem_append.mp hm with z | z
    · exact List.mem_cons_of_mem _ (g.all m z)
    · rw [List.mem_singleton.mp z]
      exact List.mem_cons_self
  · rw [p.length_eq, List.length_append]
    have := g.len
    show _ + 1 ≤ _ + 1
    omega
section
variable {P : Program} {w : World} {A : Around} {E : Value → Shared → Prop} {s : Shared}
/-- set.update's loop over anything that yields keys -/
theorem key_loop {I : Addr} {fp wr : List Addr} {G : Array GenState → Array GenState → Prop} {n : Nat} {Pv : Nat → Value → Prop} {St : Nat → Shared → Prop} {R : Result → Shared → Prop} (W : WalksS P w A.in1 I fp wr G n Pv St) (a : Addr) (out : a ∉ fp)
    (ms : List Mem) (hn : ms.length = n) (room : n + 1 < 64) (val : ∀ i v, Pv i v → ∃ m, ms[i]? = some m ∧ v = .ref m.1) (h0 : Heap) (keys : ∀ m ∈ ms, KeyAt h0 m) (fa : h0.get? a = none) (fw : ∀ b ∈ wr, h0.get? b = none) (hu : A.in1.units + 8 < cLine) :
    ∀ (k i : Nat) (s : Shared), n - i = k → i ≤ n → St i s → (∀ b o, h0.get? b = some o → s.heap.get? b = some o) → (∃ M, KSetN w 64 s.heap a M ∧ Of (ms.take i) M) →
      (∀ s' M, Moved (a :: wr) G s s' → KSetN w 64 s'.heap a M → Of ms M → R (.ok (.ret .none)) s') →
      codeAny (model P w) A (.builtin "set.update.loop" ⟨[.ref a, .ref I], []⟩) R s := by
  have ow : a ∉ wr := fun z => out (W.sub _ z)
  have wider : ∀ b ∈ wr, b ∈ a :: wr := fun b m => List.mem_cons_of_mem _ m
  have keepM : ∀ {s s' : Shared}, Moved wr G s s' → (∀ b o, h0.get? b = some o → s.heap.get? b = some o) → ∀ b o, h0.get? b = some o → s'.heap.get? b = some o := fun mv kp b o e =>
    mv.heap b o (fun z => by rw [fw b z] at e; cases e) (kp b o e)
  intro k
  induction k with
  | zero =>
    intro i s hk hi st kp ⟨M, T, g⟩ fin
    obtain rfl : i = n := by omega
    refine codeAny_builtin PyProof.Rows.F.entry_set_update_loop ?_
    rw [Around.under_plainId PyProof.Rows.F.plain_set_update_loop _]
    show wpAny (model P w) A.in1 (pyNext (.ref I) >>= _) _ _ s
    refine wpAny_bind (W.done s _ _ st fun s' mv => ?_)
    show wpAny (model P w) A.in1 (ret Value.none) _ _ s'
    rw [List.take_of_length_le (by omega)] at g
    exact wpAny_pure (fin s' M (mv.mono wider) (T.move fun o e => mv.heap a o ow e) g)
  | succ k ih =>
    intro i s hk hi st kp ⟨M, T, g⟩ fin
    have lt : i < n := by omega
    refine codeAny_builtin PyProof.Rows.F.entry_set_update_loop ?_
    rw [Around.under_plainId PyProof.Rows.F.plain_set_update_loop _]
    show wpAny (model P w) A.in1 (pyNext (.ref I) >>= _) _ _ s
    refine wpAny_bind (W.item i s _ _ lt st fun v s' hv st' mv => ?_)
    obtain ⟨m, hm, rfl⟩ := val i v hv
    have kp' := keepM mv kp
    have T' := T.move fun o e => mv.heap a o ow e
    have hx : KeyAt s'.heap m := (keys m (List.mem_of_getElem? hm)).move kp'
    have ks : ∀ y ∈ M, KeyAt s'.heap y := fun y hy => (keys y (List.mem_of_mem_take (g.sub y hy))).move kp'
    show wpAny (model P w) A.in1 (holding [Value.ref m.1] (setAdd a (.ref m.1)) >>= _) _ _ s'
    refine wpAny_bind (wpAny_holding ?_)
    unfold setAdd
    have lg := g.len
    have lt2 : (ms.take i).length ≤ i := by rw [List.length_take]; omega
    refine wpAny_holding (wpAny_bind ((nestedKind P w).pyHash (k := m.2) (show A.in1.units + 8 < cLine from hu) hx ?_))
    refine set_add (s := { s' with toks := s'.toks + (nestedKind P w).draws m.2 }) T' ks hx hu (by omega) (by omega) fun b h' M' same T2 c1 c2 _ => ?_
    have tk : ms.take i ++ [m] = ms.take (i + 1) := by rw [List.take_add_one, hm]; rfl
    have g' : Of (ms.take (i + 1)) M' := by
      rw [← tk]
      rcases Classical.em (m.2 ∈ M.map (·.2)) with c | c
      · rw [c1 c]
        exact g.old c
      · exact g.new (c2 c)
    have stay : ∀ b o, b ≠ a → s'.heap.get? b = some o → h'.get? b = some o := fun b o z e => (same.2 b z).trans e
    have kp2 : ∀ b o, h0.get? b = some o → h'.get? b = some o := fun b o e => stay b o (fun z => by rw [z, fa] at e; cases e) (kp' b o e)
    refine wpAny_pure ⟨plainId_quiet PyProof.Rows.F.plain_set_update_loop _, ih (i + 1) _ (by omega) lt (W.frame _ s' _ _ st' (Nat.le_add_right _ _) fun b m o e => stay b o (fun z => out (z ▸ m)) e) kp2 ⟨M', T2, g'⟩ fun s'' M2 mv2 T3 g3 => ?_⟩
    exact fin s'' M2 (Moved.trans W.gtrans ((mv.mono wider).then_heap (Nat.le_add_right _ _) fun b o m e => stay b o (fun z => m (z ▸ List.mem_cons_self ..)) e) mv2) T3 g3
theorem key_fresh {h : Heap} {a : Addr} (ho : h.get? a = some (setObj0 w)) : KSetN w 64 h a [] := by
  refine ⟨_, _, _, _, ho, ⟨rfl, rfl, rfl⟩, rfl, rfl, ⟨List.Pairwise.nil, rfl, rfl, .inl (.inl rfl), fun x hx => (by cases hx), fun i h j hi => (by simp at hi)⟩, ?_, by show 0 * 5 < 7 * 3; decide, List.nodup_nil, by show 0 < 64; decide, fun e => by cases e⟩
  show _ ∨ (!w.params.followText "set-order") = true
  cases w.params.followText "set-order"
  · exact .inr rfl
  · exact .inl rfl
/-- set(xs) of a list of keys -/
theorem key_set {l : Addr} {its : Array Value} (ms : List Mem) {Q : Value → Shared → Prop} (hh : A.handled = none) (hl : s.heap.IsList l its) (vs : its.toList = ms.map fun m => Value.ref m.1) (keys : ∀ m ∈ ms, KeyAt s.heap m) (room : ms.length + 1 < 64) (hu : A.units + 32 < cLine)
    (q : ∀ (h' : Heap) (tk : Nat) (M : List Mem), KSet w h' s.heap.objs.size M → Of ms M → (∀ b o, s.heap.get? b = some o → h'.get? b = some o) → Q (.ref s.heap.objs.size) { s with heap := h', toks := tk }) :
    wpAny (model P w) A (call (.type "set") [.ref l]) Q E s := by
  have sz : ms.length = its.size := by rw [← Array.length_toList, vs, List.length_map]
  obtain ⟨cl, tl, hmro⟩ := PySem.F.called_set.mro
  have k1 := PySem.F.called_set.made
  have k2 := PySem.F.called_set.sub
  have k3 := PySem.F.called_set.notType
  have k4 := PySem.F.called_set.canCreate
  have k5 := PySem.F.typeCall_set_1 (.ref l)
  refine wpAny_call (codeAny_of_tree ?_)
  show wpAny _ _ (callAny (.type "set") _) _ _ _
  refine wpAny_pure ⟨Code.quiet_builtin _ (by decide +kernel), codeAny_builtin PySem.F.entry_type_call ?_⟩
  rw [Around.under_plain (weight_type_call_type "set" [.ref l] []) rfl]
  repeat (any_goals (first | assumption | wp_step))
  refine codeAny_mono (code_set_led1 (.ref l) (E := E) (Q₁ := fun v s1 => v = .ref s.heap.objs.size ∧ s1 = { s with heap := s.heap.push (setObj0 w) }) ⟨rfl, rfl⟩) fun r s1 hr => ?_
  rcases r with e | fl
  · exact hr
  cases fl with
  | brk => exact hr.elim
  | cont => exact hr.elim
  | next => exact hr.elim
  | ret v =>
    obtain ⟨rfl, rfl⟩ := hr
    have at0 : (s.heap.push (setObj0 w)).get? s.heap.objs.size = some (setObj0 w) := Heap.get?_push_size _ rfl
    have ty0 : Shared.TypeIs { s with heap := s.heap.push (setObj0 w) } (.ref s.heap.objs.size) "set" := ⟨_, at0, rfl⟩
    have k6 := PySem.F.called_set.init.lookup
    have k7 := PySem.F.called_set.init.bind (.ref s.heap.objs.size)
    repeat (any_goals (first | assumption | wp_step))
    refine codeAny_mono (codeAny_call_builtin (R := wants (fun r s2 => r = .none ∧ ∃ h' tk M, s2 = { s with heap := h', toks := tk } ∧ KSet w h' s.heap.objs.size M ∧ Of ms M ∧ ∀ b o, s.heap.get? b = some o → h'.get? b = some o) E)
      PySem.F.called_set.init.plain PySem.F.entry_set_init (check_set_init_1 ty0 ?_)) fun r2 s2 hr2 => ?_
    · obtain ⟨⟨oc, od, oda, osl⟩, ho, hc, nl, hd⟩ := hl
      simp only at hc hd
      subst hc; subst hd
      have ho' : (s.heap.push (setObj0 w)).get? l = some { cls := .type "list", dict := od, data := .seq its nl, slots := osl } := Heap.get?_push_of_some _ ho
      have hl' : (s.heap.push (setObj0 w)).IsList l its := ⟨_, ho', rfl, nl, rfl⟩
      have j1 := PySem.F.sub_list_set
      have j2 := PySem.F.sub_list_frozenset
      have j3 : (Value.type "list" == Value.type "dict") = false := by decide
      unfold Builtin.«set.__init__» noKeywords Builtin.Frozenset.updateFrom
      generalize hPI : pyIter = PI
      wp_walk
      subst hPI
      have lS : l < s.heap.objs.size := Heap.lt_size ho
      have z1 : (s.heap.push (setObj0 w)).objs.size = s.heap.objs.size + 1 := Heap.size_push ..
      have nI : l ≠ (s.heap.push (setObj0 w)).objs.size := by rw [z1]; exact Nat.ne_of_lt (Nat.lt_succ_of_lt lS)
      have nS : s.heap.objs.size ∉ [(s.heap.push (setObj0 w)).objs.size, l] := by
        rw [z1]
        intro m
        simp only [List.mem_cons, List.not_mem_nil, or_false] at m
        rcases m with m | m
        · exact absurd m (Nat.ne_of_lt (Nat.lt_succ_self _))
        · exact absurd m.symm (Nat.ne_of_lt lS)
      have h3 : A.in1.in1.in1.handled = none := by simp [hh]
      refine wpAny_pyIter_list hl' (wpAny_bind (wpAny_runValue ?_))
      refine key_loop ((Walks.list h3 _ l nI its).toS) s.heap.objs.size nS ms sz (by omega) (fun i v hv => ?_) s.heap keys (Heap.get?_none_of_le (Nat.le_refl _)) (fun b hb => ?_) ?_ (its.size - 0) 0 _ (by omega) (Nat.zero_le _) ⟨⟨_, Heap.get?_push_size _ rfl, rfl, rfl⟩, hl'.push _⟩ (fun b o e => Heap.get?_push_of_some _ (Heap.get?_push_of_some _ e)) ⟨[], ?_, Of.nil⟩ ?_
      · have lt : i < ms.length := by rw [sz]; exact (Array.getElem?_eq_some_iff.mp hv).1
        refine ⟨ms[i], List.getElem?_eq_getElem lt, ?_⟩
        have z : its.toList[i]? = some v := by rw [Array.getElem?_toList]; exact hv
        rw [vs, List.getElem?_map, List.getElem?_eq_getElem lt] at z
        exact (Option.some.inj z).symm
      · rw [List.mem_singleton.mp hb, z1]
        exact Heap.get?_none_of_le (Nat.le_succ _)
      · simp only [Around.in1_units]
        omega
      · exact key_fresh (Heap.get?_push_of_some _ at0)
      · intro s' M mv T g
        obtain ⟨h', g2, d', tk', os'⟩ := s'
        have e1 : g2 = s.gens := mv.gens
        have e2 : d' = s.drawn := mv.drawn
        have e3 : os' = s.os := mv.os
        subst e1; subst e2; subst e3
        show wpAny _ _ _ _ _ _
        refine wpAny_pure ?_
        show wpAny _ _ (ret Value.none) _ _ _
        refine wpAny_pure ⟨rfl, h', tk', M, rfl, ⟨_, T⟩, g, fun b o e => ?_⟩
        have lb : b < s.heap.objs.size := Heap.lt_size e
        refine mv.heap b o (fun m => ?_) (Heap.get?_push_of_some _ (Heap.get?_push_of_some _ e))
        rcases List.mem_cons.mp m with m | m
        · exact absurd m (Nat.ne_of_lt lb)
        · rw [List.mem_singleton, z1] at m
          exact absurd m (Nat.ne_of_lt (Nat.lt_succ_of_lt lb))
    · rcases r2 with e | fl2
      · exact hr2
      cases fl2 with
      | brk => exact hr2.elim
      | cont => exact hr2.elim
      | next => exact hr2.elim
      | ret v =>
        obtain ⟨rfl, h', tk, M, rfl, T, g, keep⟩ := hr2
        repeat (any_goals (first | assumption | wp_step))
        exact q _ _ M T g keep
end
end Kn


/-! Kn: sorted of a list of data, set of a list of tuples of any depth, sorted of such a set. -/
namespace Kn
open PySem PySem.Spec PyProof.Rows L2
open PySem.W (dataLe dataLt keyToks keyToksAll alike alikeAll AllAlike Sortable EachIs sort_pairwise sortLe_total list_sort_data sorted_data)
/-! ### data as keys -/
mutual
def keyB : PyData → Bool
  | .none => true
  | .bool _ => true
  | .int _ => true
  | .str _ => true
  | .tuple ds => keysB ds
  | .list _ => false
  | .dict _ => false
def keysB : List PyData → Bool
  | [] => true
  | d :: r => keyB d && keysB r
end
mutual
def keyD : PyData → NestedKey
  | .none => .none
  | .bool b => .num (if b = true then 1 else 0)
  | .int i => .num i
  | .str x => .text x
  | .tuple ds => .tup (keyDs ds)
  | .list _ => .none
  | .dict _ => .none
def keyDs : List PyData → List NestedKey
  | [] => []
  | d :: r => keyD d :: keyDs r
end
mutual
theorem key_reads {h : Heap} : ∀ (d : PyData) (v : Value) (as : List Addr), keyB d = true → Reads h v d as → as = [] ∧ NestedIs h (keyD d) v
  | .none, _, _, _, r => by cases r; exact ⟨rfl, .none⟩
  | .bool b, _, _, _, r => by cases r; exact ⟨rfl, .bool rfl⟩
  | .int i, _, _, _, r => by cases r; exact ⟨rfl, .int _ _⟩
  | .str x, _, _, _, r => by cases r; exact ⟨rfl, .text _ _⟩
  | .tuple ds, _, _, k, r => by
    cases r with
    | tuple h1 h2 h3 h4 =>
      obtain ⟨e, z⟩ := keys_reads ds _ _ k h4
      exact ⟨e, .tup h1 h2 h3 z⟩
  | .list _, _, _, k, _ => by cases k
  | .dict _, _, _, k, _ => by cases k
theorem keys_reads {h : Heap} : ∀ (ds : List PyData) (vs : List Value) (as : List Addr), keysB ds = true → ReadsAll h vs ds as → as = [] ∧ NestedAll h (keyDs ds) vs
  | [], _, _, _, r => by cases r; exact ⟨rfl, .nil⟩
  | d :: ds, _, _, k, r => by
    cases r with
    | cons r1 r2 =>
      obtain ⟨k1, k2⟩ := Bool.and_eq_true_iff.mp (show (keyB d && keysB ds) = true from k)
      obtain ⟨e1, z1⟩ := key_reads d _ _ k1 r1
      obtain ⟨e2, z2⟩ := keys_reads ds _ _ k2 r2
      exact ⟨by rw [e1, e2]; rfl, .cons z1 z2⟩
end
mutual
theorem key_depth : ∀ d : PyData, keyB d = true → (keyD d).depth = d.depth
  | .none, _ => rfl
  | .bool _, _ => rfl
  | .int _, _ => rfl
  | .str _, _ => rfl
  | .tuple ds, h => by
    show NestedKey.depthAll (keyDs ds) + 1 = PyData.depthAll ds + 1
    rw [keys_depth ds h]
  | .list _, h => by cases h
  | .dict _, h => by cases h
theorem keys_depth : ∀ ds : List PyData, keysB ds = true → NestedKey.depthAll (keyDs ds) = PyData.depthAll ds
  | [], _ => rfl
  | d :: r, h => by
    obtain ⟨h1, h2⟩ := Bool.and_eq_true_iff.mp (show (keyB d && keysB r) = true from h)
    show max (keyD d).depth (NestedKey.depthAll (keyDs r)) = max d.depth (PyData.depthAll r)
    rw [key_depth d h1, keys_depth r h2]
end
/-! ### orders -/
abbrev Cell := Addr × PyData
abbrev leD {β : Type} (f : β → PyData) : β → β → Bool := dataLe false f
theorem sorted_le {β : Type} (f : β → PyData) (l : List β) : (l.mergeSort (leD f)).Pairwise fun a b => leD f a b = true := sort_pairwise (sortLe_total _ false _) l
theorem lift_perm {α β : Type} {f : α → β} : ∀ (vs : List β) (ps : List α), vs.Perm (ps.map f) → ∃ qs : List α, qs.Perm ps ∧ vs = qs.map f
  | [], ps, h => by
    have z := h.length_eq
    rw [List.length_map] at z
    exact ⟨[], by rw [List.eq_nil_of_length_eq_zero z.symm], rfl⟩
  | v :: vs, ps, h => by
    obtain ⟨p, hp, rfl⟩ := List.mem_map.mp (h.mem_iff.mp (List.mem_cons_self ..))
    obtain ⟨s, t, rfl⟩ := List.append_of_mem hp
    have pm : (s ++ p :: t).Perm (p :: (s ++ t)) := List.perm_middle
    have h2 : vs.Perm ((s ++ t).map f) := (List.perm_cons (f p)).mp (h.trans (pm.map f))
    obtain ⟨qs, q1, q2⟩ := lift_perm vs (s ++ t) h2
    exact ⟨p :: qs, (List.Perm.cons p q1).trans pm.symm, by rw [q2, List.map_cons]⟩
section
variable {P : Program} {w : World} {A : Around} {E : Value → Shared → Prop} {s : Shared}
theorem each_refs {ps : List Cell} {h : Heap} (r : ∀ p ∈ ps, Reads h (.ref p.1) p.2 []) : EachIs (fun v b => ∃ as, Reads h v b.2 as ∧ as = []) (ps.map fun p => Value.ref p.1) ps := by
  induction ps with
  | nil => exact .nil
  | cons p ps ih => exact .cons ⟨[], r p (List.mem_cons_self ..), rfl⟩ (ih fun q hq => r q (List.mem_cons_of_mem _ hq))
theorem each_id (ps : List Cell) : EachIs (fun (v : Value) (b : Cell) => v = .ref b.1) (ps.map fun p => Value.ref p.1) ps := by
  induction ps with
  | nil => exact .nil
  | cons p ps ih => exact .cons rfl ih
theorem refs_each {vs : List Value} {ps : List Cell} (h : EachIs (fun (v : Value) (b : Cell) => v = .ref b.1) vs ps) : vs = ps.map fun p => Value.ref p.1 := by
  induction h with
  | nil => rfl
  | cons e _ ih => rw [e, ih]; rfl
/-- sorted of a set of keys -/
theorem key_sorted {a : Addr} {ps : List Cell} {Q : Value → Shared → Prop} (R : KSet w s.heap a (ps.map fun p => (p.1, keyD p.2))) (hh : A.handled = none) (rd : ∀ p ∈ ps, Reads s.heap (.ref p.1) p.2 []) (al : AllAlike (ps.map (·.2))) (so : Sortable (ps.map (·.2))) (hu : ∀ p ∈ ps, A.units + 8 + p.2.depth < cLine)
    (q : ∀ s' l (c : Nat) (qs : List Cell), (∀ b o, s.heap.get? b = some o → s'.heap.get? b = some o) → s'.gens = s.gens → s'.os = s.os → s.heap.objs.size ≤ l →
      s'.heap.get? l = some (seqObj "list" (qs.map fun p => Value.ref p.1).toArray c) → qs.Perm ps → qs.Pairwise (fun x y => leD (fun p : Cell => p.2) x y = true) → Q (.ref l) s') :
    wpAny (model P w) A (call (.builtin "sorted") [.ref a]) Q E s := by
  obtain ⟨C, R⟩ := R.ex
  obtain ⟨o, es, ep, t, ho, hx, hd, T⟩ := R.ex
  have few : ps.length < 64 := by have := T.few; rwa [List.length_map] at this
  have sz : es.size = ps.length := by rw [T.size, List.length_map]
  have b0 : es.size < scanBound := by rw [sz]; exact Nat.lt_trans few (by decide)
  refine Calls.call_function_entry PyProof.Rows.kind_sorted PyProof.Rows.plain_sorted PyProof.Rows.entry_sorted (PyProof.Rows.args_sorted1 _) ?_
  unfold Builtin.«sorted»
  refine wpAny_bind (m := checkCount "sorted" 1 1 _) (wpAny_pure (wpAny_bind (collect_set (A := A.in1) hh ⟨o, ho, hx.1, hd⟩ T.fits b0 T.ok.asc T.led fun s1 vs k1 hz g1 o1 pm => ?_)))
  have e1 : es.toList.map (·.2) = ps.map fun p => Value.ref p.1 := by
    rw [T.rows, List.map_map, List.map_map]
    rfl
  rw [e1] at pm
  obtain ⟨qs, pq, rfl⟩ := lift_perm _ _ pm
  have lq : qs.length = ps.length := pq.length_eq
  refine wpAny_bind (wpAny_newList ?_ (by rw [List.length_map, lq, sizeLine_eq]; omega))
  have hoL : (s1.heap.push (seqObj "list" (qs.map fun p => Value.ref p.1).toArray 0)).get? s1.heap.objs.size = some (seqObj "list" (qs.map fun p => Value.ref p.1).toArray 0) := Heap.get?_push_size _ rfl
  have al2 : AllAlike (qs.map (·.2)) := fun d hd' e he => by
    have p2 := pq.map (·.2)
    exact al d (p2.mem_iff.mp hd') e (p2.mem_iff.mp he)
  have so2 : Sortable (qs.map (·.2)) := by
    have p2 := pq.map (·.2)
    rcases so with z | z
    · exact .inl fun d hd' => z d (p2.mem_iff.mp hd')
    · exact .inr fun d hd' => z d (p2.mem_iff.mp hd')
  have rd2 : ∀ p ∈ qs, Reads (s1.heap.push (seqObj "list" (qs.map fun p => Value.ref p.1).toArray 0)) (.ref p.1) p.2 [] := fun p hp =>
    PyProof.Rows.Reads.keeps (fun b o e => Heap.get?_push_of_some _ (k1 b o e)) (rd p (pq.mem_iff.mp hp))
  refine wpAny_bind (wpAny_holding (list_sort_data (enc := fun p : Cell => p.2) (bs := qs) (R := fun v b => v = .ref b.1) hoL (each_id qs) ((each_refs rd2).mono fun v b ⟨as, r, e⟩ => ⟨as, r, by rw [e]; exact List.not_mem_nil⟩) al2 so2 (by rw [lq]; exact Nat.le_trans (Nat.le_of_lt few) (by decide))
    (fun p hp => by have := hu p (pq.mem_iff.mp hp); simp only [Around.in1_units]; omega) fun out lo eo => ?_))
  have eo := refs_each eo
  subst eo
  obtain ⟨c, hc⟩ := PyProof.Rows.sortedHeap_at (vs := qs.map fun p => Value.ref p.1) (out := ((qs.mergeSort (dataLe false fun p : Cell => p.2)).map fun p => Value.ref p.1).toArray) hoL
  refine wpAny_pure ⟨_, rfl, q _ s1.heap.objs.size c (qs.mergeSort (dataLe false fun p : Cell => p.2)) (fun b u e => ?_) g1 o1 hz hc ((List.mergeSort_perm _ _).trans pq) (sorted_le _ _)⟩
  have e' := k1 b u e
  have lt := Heap.lt_size e'
  show (PyProof.Rows.sortedHeap (s1.heap.push (seqObj "list" (qs.map fun p => Value.ref p.1).toArray 0)) s1.heap.objs.size (qs.map fun p => Value.ref p.1) _).get? b = some u
  rw [PyProof.Rows.sortedHeap_old (Nat.ne_of_lt lt) (by rw [size_push']; exact Nat.lt_succ_of_lt lt)]
  exact Heap.get?_push_of_some _ e'
end
end Kn


/-! Kn: the calls of sorted and set, over the layer. -/
namespace Kn
open PySem PySem.Spec PyProof.Rows L2
open PySem.W (dataLe dataLt keyToks keyToksAll alike alikeAll AllAlike Sortable EachIs sort_pairwise sortLe_total list_sort_data sorted_data)
def SetK (w : World) (a : Addr) (M : List Mem) : HO := .ext fun h => KSet w h a M
abbrev memOf (p : Cell) : Mem := (p.1, keyD p.2)
theorem setK_new {w : World} {P : Program} {H : Hp} {h : Heap} {a : Addr} {M : List Mem} (R : KSet w h a M) : ObjOk P w H h a (SetK w a M) := by
  obtain ⟨_, R1⟩ := R.ex
  obtain ⟨o, _, _, _, ho, _⟩ := R1.ex
  exact ⟨R, ⟨o, ho⟩, fun h1 h2 p k => p.move k⟩
section
variable {X : Cx}
theorem dp_key {pins : List (Addr × Obj)} {σ : L2.St} {H : Hp} {s : Shared} {p : Addr} {d : PyData} (I : Inv X pins σ H s) (h : Dp X.K H (.ref p) d) (k : keyB d = true) : Reads s.heap (.ref p) d [] ∧ NestedIs s.heap (keyD d) (.ref p) := by
  obtain ⟨as, r⟩ := Dp.reads I d _ _ h rfl
  obtain ⟨e, z⟩ := key_reads d _ _ k r
  subst e
  exact ⟨r, z⟩
theorem lift_sub {α β : Type} {f : α → β} {ps : List α} : ∀ (M : List β), (∀ m ∈ M, m ∈ ps.map f) → ∃ qs : List α, qs.map f = M ∧ ∀ q ∈ qs, q ∈ ps
  | [], _ => ⟨[], rfl, fun _ h => by cases h⟩
  | m :: M, h => by
    obtain ⟨p, hp, rfl⟩ := List.mem_map.mp (h m (List.mem_cons_self ..))
    obtain ⟨qs, e, q⟩ := lift_sub M fun x hx => h x (List.mem_cons_of_mem _ hx)
    refine ⟨p :: qs, by rw [List.map_cons, e], fun y hy => ?_⟩
    rcases List.mem_cons.mp hy with rfl | hy
    · exact hp
    · exact q y hy
/-- set(xs), xs a list of tuples of any depth -/
def rSetK (K : PySem.W.Frag) (w : World) : List V → Hp → VK → Prop := fun vs H Q => ∃ (l : Addr) (ps : List Cell), vs = [.ref l] ∧ SqL K H l (ps.map fun p => V.ref p.1) ∧ (∀ p ∈ ps, Dp K H (.ref p.1) p.2 ∧ keyB p.2 = true ∧ p.2.depth ≤ 8) ∧ ps.length + 1 < 64 ∧
  ∀ (a : Addr) (qs : List Cell), H a = none → (∀ q ∈ qs, q ∈ ps) → (∀ p ∈ ps, keyD p.2 ∈ qs.map fun q => keyD q.2) → (qs.map fun q => keyD q.2).Nodup → Q (.ref a) (upd H a (SetK w a (qs.map memOf)))
theorem refs_vals : ∀ {ps : List Cell} {us : List Value}, Vals (ps.map fun p => V.ref p.1) us → us = ps.map fun p => Value.ref p.1
  | [], _, .nil => rfl
  | p :: ps, _, .cons r t => by
    cases r
    rw [refs_vals t]
    rfl
theorem vals_refs : ∀ ps : List Cell, Vals (ps.map fun p => V.ref p.1) (ps.map fun p => Value.ref p.1)
  | [] => .nil
  | _ :: ps => .cons rfl (vals_refs ps)
theorem cr_setK (hc : X.calm = true) (hu : X.A.units + 64 < cLine) : CallR X (.type "set") (rSetK X.K X.w) := by
  intro pins s σ H vs us Q I r h
  obtain ⟨l, ps, rfl, hl, hp, few, q⟩ := h
  rw [Vals.ref1 r]
  obtain ⟨its, rv, pl, hz⟩ := I.list hl
  refine key_set (ps.map memOf) (I.ok.hd hc) pl.isList ?_ (fun m hm => ?_) (by rw [List.length_map]; exact few) (by omega) fun h' tk M T g keep => ?_
  · rw [List.map_map]
    have z := refs_vals rv
    show its = _
    rw [z]
    rfl
  · obtain ⟨p, hpm, rfl⟩ := List.mem_map.mp hm
    obtain ⟨d, k, dp⟩ := hp p hpm
    exact ⟨(dp_key I d k).2, by rw [key_depth _ k]; exact dp⟩
  · obtain ⟨qs, rfl, sub⟩ := lift_sub M g.sub
    obtain ⟨_, T1⟩ := T.ex
    obtain ⟨o, es, ep, t, ho, hx, hd, TT⟩ := T1.ex
    have nd := TT.nd
    rw [List.map_map] at nd
    refine ⟨.ref _, upd H s.heap.objs.size (SetK X.w s.heap.objs.size (qs.map memOf)), I.laid (t' := tk) keep (Nat.le_refl _) (setK_new T), rfl, q _ qs (I.hok.fresh (Nat.le_refl _)) sub (fun p hpm => ?_) nd⟩
    have z := g.all (memOf p) (List.mem_map.mpr ⟨p, hpm, rfl⟩)
    rw [List.map_map] at z
    exact z
/-- sorted of such a set -/
def rSortedK (K : PySem.W.Frag) (w : World) : List V → Hp → VK → Prop := fun vs H Q => ∃ (a : Addr) (ps : List Cell), vs = [.ref a] ∧ H a = some (SetK w a (ps.map memOf)) ∧ (∀ p ∈ ps, Dp K H (.ref p.1) p.2 ∧ keyB p.2 = true ∧ p.2.depth ≤ 8) ∧ AllAlike (ps.map (·.2)) ∧ Sortable (ps.map (·.2)) ∧
  ∀ (l : Addr) (qs : List Cell), H l = none → qs.Perm ps → qs.Pairwise (fun x y => leD (fun p : Cell => p.2) x y = true) → Q (.ref l) (upd H l (.lst (qs.map fun q => V.ref q.1)))
theorem cr_sortedK (hc : X.calm = true) (hu : X.A.units + 64 < cLine) : CallR X (.builtin "sorted") (rSortedK X.K X.w) := by
  intro pins s σ H vs us Q I r h
  obtain ⟨a, ps, rfl, ha, hp, al, so, q⟩ := h
  rw [Vals.ref1 r]
  have T : KSet X.w s.heap a (ps.map memOf) := (I.hok a _ ha).1
  have few : ps.length < 64 := by
    obtain ⟨_, T1⟩ := T.ex
    obtain ⟨o, es, ep, t, ho, hx, hd, TT⟩ := T1.ex
    have := TT.few
    rwa [List.length_map] at this
  refine key_sorted T (I.ok.hd hc) (fun p hpm => (dp_key I (hp p hpm).1 (hp p hpm).2.1).1) al so (fun p hpm => by have := (hp p hpm).2.2; omega) fun s' l c qs keep g o hl hg pm pw => ?_
  have len : (qs.map fun q => V.ref q.1).length ≤ sizeLine := by rw [List.length_map, pm.length_eq]; exact Nat.le_trans (Nat.le_of_lt few) (by decide)
  have fresh : H l = none := I.hok.fresh hl
  have J : Inv X pins σ (upd H l (.lst (qs.map fun q => V.ref q.1))) { s with heap := s'.heap, gens := s'.gens, drawn := s'.drawn, toks := s'.toks } :=
    I.call (ch := []) (Un.laid keep hl fresh) (I.hok.laid keep hl ⟨len, _, c, vals_refs qs, hg⟩) (by rw [g]; exact I.bare) (fun _ z => nomatch z)
  have e : s' = { s with heap := s'.heap, gens := s'.gens, drawn := s'.drawn, toks := s'.toks } := by
    rcases s' with ⟨a1, a2, a3, a4, a5⟩
    rcases s with ⟨b1, b2, b3, b4, b5⟩
    cases o
    rfl
  rw [e]
  exact ⟨.ref l, _, J, rfl, q l qs fresh pm pw⟩
/-- sorted of a list of data -/
abbrev VD := V × PyData
def rSortedD (K : PySem.W.Frag) : List V → Hp → VK → Prop := fun vs H Q => ∃ (a : Addr) (ps : List VD), vs = [.ref a] ∧ SqL K H a (ps.map (·.1)) ∧ (∀ p ∈ ps, Dp K H p.1 p.2 ∧ p.2.depth ≤ 8) ∧ AllAlike (ps.map (·.2)) ∧ Sortable (ps.map (·.2)) ∧
  ∀ (l : Addr) (qs : List VD), H l = none → qs.Perm ps → qs.Pairwise (fun x y => leD (fun p : VD => p.2) x y = true) → Q (.ref l) (upd H l (.lst (qs.map (·.1))))
theorem each_vals {s : Shared} : ∀ {ps : List VD} {us : List Value}, Vals (ps.map (·.1)) us → (∀ p ∈ ps, ∀ u, RelV p.1 u → ∃ as, Reads s.heap u p.2 as) → EachIs (fun v (b : VD) => RelV b.1 v) us ps ∧ EachIs (fun v (b : VD) => ∃ as, Reads s.heap v b.2 as) us ps
  | [], _, .nil, _ => ⟨.nil, .nil⟩
  | p :: ps, _, .cons r t, h => by
    obtain ⟨a, b⟩ := each_vals t fun q hq => h q (List.mem_cons_of_mem _ hq)
    exact ⟨.cons r a, .cons (h p (List.mem_cons_self ..) _ r) b⟩
theorem vals_each {us : List Value} {ps : List VD} (h : EachIs (fun v (b : VD) => RelV b.1 v) us ps) : Vals (ps.map (·.1)) us := by
  induction h with
  | nil => exact .nil
  | cons e _ ih => exact .cons e ih
theorem cr_sortedD (hu : X.A.units + 64 < cLine) : CallR X (.builtin "sorted") (rSortedD X.K) := by
  intro pins s σ H vs us Q I r h
  obtain ⟨a, ps, rfl, ha, hp, al, so, q⟩ := h
  rw [Vals.ref1 r]
  obtain ⟨its, rv, pl, hz⟩ := I.list ha
  obtain ⟨e1, e2⟩ := each_vals (s := s) rv fun p hpm u ru => Dp.reads I p.2 p.1 u (hp p hpm).1 ru
  refine sorted_data (enc := fun p : VD => p.2) (bs := ps) (R := fun v b => RelV b.1 v) pl.isList e1 e2 al so (by rwa [List.length_map] at hz) (fun p hpm => by have := (hp p hpm).2; show X.A.units + 2 + p.2.depth < cLine; omega) fun out lo eo => ?_
  have vo := vals_each eo
  generalize hq : ps.mergeSort (dataLe false fun p : VD => p.2) = qs at vo
  have pm : qs.Perm ps := hq ▸ List.mergeSort_perm _ _
  have pw : qs.Pairwise (fun x y => leD (fun p : VD => p.2) x y = true) := hq ▸ sorted_le _ _
  obtain ⟨c, hc⟩ := sortedAll_at s.heap its (List.toArray out)
  have len : (qs.map (·.1)).length ≤ sizeLine := by rw [List.length_map, pm.length_eq]; rwa [List.length_map] at hz
  have fresh : H (s.heap.objs.size + 1) = none := I.hok.fresh (Nat.le_succ _)
  have old : ∀ b o, s.heap.get? b = some o → (sortedAll s.heap its (List.toArray out)).get? b = some o := fun b o e => sortedAll_old e
  exact ⟨.ref _, upd H (s.heap.objs.size + 1) (.lst (qs.map (·.1))), I.laid (t' := s.toks) old (Nat.le_succ _) ⟨len, out, c, vo, hc⟩, rfl, q _ qs fresh pm pw⟩
end
end Kn


namespace Kn
open PySem PySem.Spec PyProof.Rows L2
abbrev nLp : List Str := ["_law_book", "_law_power", "_law_found", "_law_turn", "_law_duo"]
theorem scLp : FnScope nLp ["_law_book", "_law_power"] (defScope (topS 46)) := ⟨rfl, rfl, rfl, by decide +kernel, rfl, by decide +kernel, by decide +kernel⟩
def addP (g : Pg) (acc ts : List (Str × Int)) : List (Str × Int) := ts.foldl (fun acc t => if decide (t ∉ acc) && canB g t.1 t.2 then acc ++ [t] else acc) acc
def bfs (g : Pg) : Nat → Nat → List (Str × Int) → List (Str × Int)
  | 0, _, fs => fs
  | k + 1, t, fs => match fs[t]? with
    | none => fs
    | some s => bfs g k (t + 1) (addP g fs (lvOf g s))
def firstF (g : Pg) (p : Int) : List (Str × Int) := if canB g g.asks p then [(g.asks, p)] else []
/-- the pairs that a plan may hold -/
def foundP (g : Pg) (p : Int) : List (Str × Int) := bfs g 28 0 (firstF g p)
structure GoodF (g : Pg) (p : Int) (fs : List (Str × Int)) : Prop where
  nd : fs.Nodup
  all : ∀ s ∈ fs, (rowOf g s.1).isSome = true ∧ canB g s.1 s.2 = true ∧ 1 ≤ s.2 ∧ s.2 ≤ p
theorem can_is {g : Pg} {n : Str} {m : Int} (h : canB g n m = true) : ∃ e, rowOf g n = some e ∧ e.has = false ∧ e.fee ≤ m := by
  unfold canB at h
  cases z : rowOf g n with
  | none => rw [z] at h; cases h
  | some e =>
    rw [z] at h
    have h : (!e.has && decide (e.fee ≤ m)) = true := h
    rw [Bool.and_eq_true] at h
    exact ⟨e, rfl, by simpa using h.1, of_decide_eq_true h.2⟩
theorem can_pos {g : Pg} (G : GW g) {n : Str} {m : Int} (h : canB g n m = true) : 1 ≤ m := by
  obtain ⟨e, he, _, hf⟩ := can_is h
  have := (G.fee e (row_is he).1).1
  omega
theorem lv_known {g : Pg} (G : GW g) {s t : Str × Int} (h : t ∈ lvOf g s) : (rowOf g t.1).isSome = true ∧ t.2 < s.2 := by
  unfold lvOf at h
  cases z : rowOf g s.1 with
  | none => rw [z] at h; cases h
  | some e =>
    rw [z] at h
    obtain ⟨k, hk, rfl⟩ := List.mem_map.mp h
    obtain ⟨e', he'⟩ := row_tab G z hk
    refine ⟨by rw [he']; rfl, ?_⟩
    have := (G.fee e (row_is z).1).1
    show s.2 - e.fee < s.2
    omega
theorem lv_low {g : Pg} (G : GW g) {s t : Str × Int} (h : t ∈ lvOf g s) : s.2 - 9 ≤ t.2 := by
  unfold lvOf at h
  cases z : rowOf g s.1 with
  | none => rw [z] at h; cases h
  | some e =>
    rw [z] at h
    obtain ⟨k, hk, rfl⟩ := List.mem_map.mp h
    have := (G.fee e (row_is z).1).2
    show s.2 - 9 ≤ s.2 - e.fee
    omega
theorem addP_len {g : Pg} : ∀ {ts fs : List (Str × Int)}, fs.length ≤ (addP g fs ts).length
  | [], _ => Nat.le_refl _
  | t :: ts, fs => by
    show fs.length ≤ (addP g (if decide (t ∉ fs) && canB g t.1 t.2 then fs ++ [t] else fs) ts).length
    refine Nat.le_trans ?_ addP_len
    split
    · rw [List.length_append]
      exact Nat.le_add_right _ _
    · exact Nat.le_refl _
theorem addP_snoc {g : Pg} {acc ts : List (Str × Int)} {j : Nat} {t : Str × Int} (h : ts[j]? = some t) : addP g acc (ts.take (j + 1)) = if decide (t ∉ addP g acc (ts.take j)) && canB g t.1 t.2 then addP g acc (ts.take j) ++ [t] else addP g acc (ts.take j) := by
  unfold addP
  rw [List.take_add_one, h, List.foldl_append]
  rfl
theorem GoodF.one {g : Pg} (G : GW g) {p : Int} {fs : List (Str × Int)} (h : GoodF g p fs) {t : Str × Int} (k : (rowOf g t.1).isSome = true) (le : t.2 ≤ p) : GoodF g p (if decide (t ∉ fs) && canB g t.1 t.2 then fs ++ [t] else fs) := by
  by_cases z : (decide (t ∉ fs) && canB g t.1 t.2) = true
  · rw [if_pos z]
    rw [Bool.and_eq_true] at z
    have nt := of_decide_eq_true z.1
    refine ⟨List.nodup_append.mpr ⟨h.nd, by simp, fun a ha b hb e => ?_⟩, fun s hs => ?_⟩
    · have := List.mem_singleton.mp hb
      exact nt (this ▸ e ▸ ha)
    · rcases List.mem_append.mp hs with hs | hs
      · exact h.all s hs
      · obtain rfl := List.mem_singleton.mp hs
        exact ⟨k, z.2, can_pos G z.2, le⟩
  · rw [if_neg z]
    exact h
theorem GoodF.add {g : Pg} (G : GW g) {p : Int} : ∀ {ts fs : List (Str × Int)}, GoodF g p fs → (∀ t ∈ ts, (rowOf g t.1).isSome = true ∧ t.2 ≤ p) → GoodF g p (addP g fs ts)
  | [], _, h, _ => h
  | t :: ts, fs, h, k => GoodF.add G (ts := ts) (h.one G (k t (List.mem_cons_self ..)).1 (k t (List.mem_cons_self ..)).2) fun x hx => k x (List.mem_cons_of_mem _ hx)
theorem GoodF.left {g : Pg} (G : GW g) {p : Int} {fs : List (Str × Int)} (h : GoodF g p fs) {s : Str × Int} (hs : s ∈ fs) : ∀ t ∈ lvOf g s, (rowOf g t.1).isSome = true ∧ t.2 ≤ p := fun t ht => by
  have z := lv_known G ht
  have := (h.all s hs).2.2.2
  exact ⟨z.1, by omega⟩
theorem nodup_sub {α : Type} [DecidableEq α] : ∀ {xs ys : List α}, xs.Nodup → (∀ x ∈ xs, x ∈ ys) → xs.length ≤ ys.length
  | [], _, _, _ => Nat.zero_le _
  | x :: xs, ys, nd, h => by
    have hx := h x (List.mem_cons_self ..)
    have nd' := List.nodup_cons.mp nd
    have l := List.length_erase_of_mem hx
    have z := nodup_sub (ys := ys.erase x) nd'.2 fun y hy => (List.mem_erase_of_ne (fun e => nd'.1 (by rw [← e]; exact hy))).mpr (h y (List.mem_cons_of_mem _ hy))
    have : 0 < ys.length := List.length_pos_of_mem hx
    rw [List.length_cons]
    omega
theorem flat_len {α β : Type} {f : α → List β} {n : Nat} : ∀ {xs : List α}, (∀ x ∈ xs, (f x).length = n) → (xs.flatMap f).length = xs.length * n
  | [], _ => by simp
  | x :: xs, h => by
    rw [List.flatMap_cons, List.length_append, h x (List.mem_cons_self ..), flat_len fun y hy => h y (List.mem_cons_of_mem _ hy), List.length_cons, Nat.succ_mul]
    omega
theorem GoodF.few {g : Pg} (G : GW g) {p : Int} {fs : List (Str × Int)} (p6 : p ≤ 6) (h : GoodF g p fs) : fs.length ≤ 28 := by
  have z := nodup_sub (ys := g.es.flatMap fun e => (List.range 7).map fun i : Nat => (e.name, ((i : Nat) : Int))) h.nd fun s hs => by
    obtain ⟨k, _, lo, hi⟩ := h.all s hs
    obtain ⟨e, he⟩ := Option.isSome_iff_exists.mp k
    obtain ⟨em, en⟩ := row_is he
    refine List.mem_flatMap.mpr ⟨e, em, List.mem_map.mpr ⟨s.2.toNat, List.mem_range.mpr (by omega), ?_⟩⟩
    exact Prod.ext en (by show ((s.2.toNat : Nat) : Int) = s.2; omega)
  rw [flat_len (n := 7) fun e _ => by rw [List.length_map, List.length_range]] at z
  have := G.few
  omega
theorem GoodF.first {g : Pg} (G : GW g) {p : Int} : GoodF g p (firstF g p) := by
  unfold firstF
  cases z : canB g g.asks p
  · exact ⟨List.nodup_nil, fun _ h => by cases h⟩
  · rw [if_pos rfl]
    refine ⟨by simp, fun s hs => ?_⟩
    obtain rfl := List.mem_singleton.mp hs
    exact ⟨mem_rows.mp G.asks, z, can_pos G z, Int.le_refl _⟩
theorem GoodF.bfs {g : Pg} (G : GW g) {p : Int} : ∀ {k t : Nat} {fs : List (Str × Int)}, GoodF g p fs → GoodF g p (bfs g k t fs)
  | 0, _, _, h => h
  | k + 1, t, fs, h => by
    unfold Kn.bfs
    cases z : fs[t]? with
    | none => exact h
    | some s => exact GoodF.bfs G (h.add G (h.left G (List.mem_of_getElem? z)))
theorem found_good {g : Pg} (G : GW g) {p : Int} : GoodF g p (foundP g p) := GoodF.bfs G (GoodF.first G)
def Asc (qs : List (Str × Int)) : Prop := qs.Pairwise fun s t => PySem.W.dataLt (dPr s) (dPr t) = true
theorem lt_of_le {s t : Str × Int} (h : PySem.W.dataLt (dPr t) (dPr s) = false) (ne : s ≠ t) : PySem.W.dataLt (dPr s) (dPr t) = true := by
  cases z : PySem.W.dataLt (dPr s) (dPr t) with
  | true => rfl
  | false =>
    have e : PySem.W.keyToks (dPr s) = PySem.W.keyToks (dPr t) := PyProof.Rows.lex_total _ _ z h
    have ks : ∀ u : Str × Int, PySem.W.keyToks (dPr u) = [.inl 1, .inr u.1.cps.toList, .inl 1, .inl u.2, .inl 0] := fun u => rfl
    rw [ks, ks] at e
    injection e with _ e
    injection e with e1 e
    injection e with _ e
    injection e with e2 _
    refine absurd (Prod.ext ?_ (Sum.inl.inj e2)) ne
    have e1 := Sum.inr.inj e1
    obtain ⟨⟨⟨a⟩⟩, m⟩ := s
    obtain ⟨⟨⟨b⟩⟩, n⟩ := t
    have e1 : a = b := e1
    rw [e1]
theorem asc_of {cs : List (V × (Str × Int))} (pw : (cs.map fun c => (c.1, dPr c.2)).Pairwise fun x y => leD (fun p : VD => p.2) x y = true) (nd : (cs.map (·.2)).Nodup) : Asc (cs.map (·.2)) := by
  have h1 := List.pairwise_map.mp pw
  have h2 := List.pairwise_map.mp (show (cs.map (·.2)).Pairwise (· ≠ ·) from nd)
  refine List.pairwise_map.mpr ((h1.and h2).imp fun {x y} h => lt_of_le ?_ h.2)
  have z : (!PySem.W.dataLt (dPr y.2) (dPr x.2)) = true := h.1
  simpa using z
def spLp (K : PySem.W.Frag) : Sp := fun vs H Q _ => ∃ (w : V) (g : Pg) (p : Int), vs = [w, .int p] ∧ PgAt K H w g ∧ GW g ∧ 0 ≤ p ∧ p ≤ 6 ∧
  ∀ (q : Addr) (ys : List V) (qs : List (Str × Int)) (H' : Hp), Same H H' → H' q = some (.tup ys) → PrsAt H' ys qs → qs.Perm (foundP g p) → Asc qs → Q (.ref q) H'
theorem if_rest {c : Bool} {A B : Prop} {R : Hp → Prop} (S : Hp → Prop) (ha : c = true → (∀ G, S G → R G) → A) (hb : c = false → (∀ G, S G → R G) → B) (r : ∀ G, S G → R G) : (if c = true then A else B) := by
  cases c
  · exact iteF (hb rfl r)
  · exact iteT (ha rfl r)
theorem pr_alike : ∀ ss : List (Str × Int), PySem.W.AllAlike (ss.map dPr) := fun ss d hd d' hd' => by
  obtain ⟨s, _, rfl⟩ := List.mem_map.mp hd
  obtain ⟨s', _, rfl⟩ := List.mem_map.mp hd'
  rfl
theorem pr_sortable (ss : List (Str × Int)) : PySem.W.Sortable (ss.map dPr) := .inl fun d hd => by
  obtain ⟨s, _, rfl⟩ := List.mem_map.mp hd
  exact ⟨_, _, rfl⟩
theorem prs_zip {H : Hp} : ∀ {vs : List V} {ss : List (Str × Int)}, PrsAt H vs ss → ∃ cs : List (V × (Str × Int)), cs.map (·.1) = vs ∧ cs.map (·.2) = ss ∧ ∀ c ∈ cs, PrAt H c.1 c.2
  | _, _, .nil => ⟨[], rfl, rfl, fun _ h => by cases h⟩
  | _, _, .cons (v := v) (s := s) a b => by
    obtain ⟨cs, e1, e2, h⟩ := prs_zip b
    refine ⟨(v, s) :: cs, by rw [List.map_cons, e1], by rw [List.map_cons, e2], fun c hc => ?_⟩
    rcases List.mem_cons.mp hc with rfl | hc
    · exact a
    · exact h c hc
theorem prs_of_cs {H : Hp} : ∀ {cs : List (V × (Str × Int))}, (∀ c ∈ cs, PrAt H c.1 c.2) → PrsAt H (cs.map (·.1)) (cs.map (·.2))
  | [], _ => .nil
  | c :: cs, h => .cons (h c (List.mem_cons_self ..)) (prs_of_cs fun x hx => h x (List.mem_cons_of_mem _ hx))
theorem prs_lay {ss : List (Str × Int)} (h : ∀ s ∈ ss, goodD (dPr s) = true) : PyData.canLayAll0 (ss.map dPr) = true := by
  have z : goodDs (ss.map dPr) = true := by
    induction ss with
    | nil => rfl
    | cons s ss ih =>
      show (goodD (dPr s) && goodDs (ss.map dPr)) = true
      rw [h s (List.mem_cons_self ..), ih fun x hx => h x (List.mem_cons_of_mem _ hx)]
      rfl
  exact good_lay (.list (ss.map dPr)) z
section
variable {P : Program} {w : World} {K : PySem.W.Frag} {mg : Str → Option Value} {base : Heap}
theorem ok_lp {f fL fC : Addr} {fd fdL fdC : FuncData} (F : Fun K "_law_pairs" "_law_pairs" (topS 46) f fd) (Le : Def K mg "_law_left" 44 ["_law_book", "_law_duo"] fL fdL) (OL : FnOk P w K mg base CX0 2 fL fdL ["_law_book", "_law_duo"] (spLl K))
    (Cs : Def K mg "_law_can_send" 45 ["_law_book", "_law_duo"] fC fdC) (OC : FnOk P w K mg base CX0 2 fC fdC ["_law_book", "_law_duo"] (spLc K)) (ml : mg "len" = none) (mt : mg "tuple" = none) (mo : mg "sorted" = none) :
    FnOk P w K mg base CX0 3 f fd ["_law_book", "_law_power"] (spLp K) := by
  refine F.ok scLp (fun vs H Q E h => ?_) (fun cdv A outer s H vs Q E hr h => ?_)
  · obtain ⟨w0, g, p, rfl, _⟩ := h
    rfl
  · obtain ⟨w0, g, p, rfl, pg, G, p0, p6, q⟩ := h
    have hu := hr.units
    obtain ⟨pw, q0, ws, rfl, hpw, hq0, hE⟩ := id pg
    refine ⟨_, (pss_cons (ps_par (i := 2) (j := 3) (by rfl) scLp.nd rfl rfl (by decide) rfl rfl (pa_cons (pe_lst pa_nil) (pa_cons pe_int pa_nil)) (by rfl))
      (pss_cons (ps_if (pt_val (pe_call OC hr (by rfl) Cs.m Cs.F.kp Cs.b .nil pass0 (pa_cons (pv 0) (pa_cons (pe_tup (pa_cons (pe_ix ix_tup (pv 0) pe_int (fun _ _ => rfl)) (pa_cons (pv 1) pa_nil))) pa_nil)))) (pss_one (ps_expr (pe_bm PySem.F.plainAttrs_list PySem.F.slot_list_append PySem.F.type_list_append mt_append (pv 2) (pa_cons (pe_tup (pa_cons (pe_ix ix_tup (pv 0) pe_int (fun _ _ => rfl)) (pa_cons (pv 1) pa_nil))) pa_nil)))) pss_nil)
      (pss_cons (ps_while PassesOwn.never (pt_cmpR op_lt (pv 3) (pe_callB call_len_seq (by rfl) ml PySem.boot_len (pa_cons (pv 2) pa_nil)) (nomark _)) (pss_cons (ps_for PassesOwn.never rfl (pi_list (pe_call OL hr (by rfl) Le.m Le.F.kp Le.b .nil pass0 (pa_cons (pv 0) (pa_cons (pe_ix ix_list (pv 2) (pv 3) (fun _ _ => rfl)) pa_nil)))) (pg_name (i := 4) scLp.nd rfl (.inl rfl)) (pss_one (ps_if (PW.pt (pw_and (pt_cmpR (op_notInLD hu) (pv 4) (pv 2) (by rfl)) (pw_and1 (pt_val (pe_call OC hr (by rfl) Cs.m Cs.F.kp Cs.b .nil pass0 (pa_cons (pv 0) (pa_cons (pv 4) pa_nil))))))) (pss_one (ps_expr (pe_bm PySem.F.plainAttrs_list PySem.F.slot_list_append PySem.F.type_list_append mt_append (pv 2) (pa_cons (pv 4) pa_nil)))) pss_nil)))
      (pss_one (ps_set (i := 3) scLp.nd rfl (.inl rfl) (pe_op op_add (pv 3) pe_int)))))
      (pss_one (ps_ret (pe_callTy call_tuple_of (by rfl) mt (by decide +kernel) (pa_cons (pe_callB (cr_sortedD hu) (by rfl) mo (by decide +kernel) (pa_cons (pv 2) pa_nil)) pa_nil))))))), ?_⟩
    refine ⟨(show 0 ≤ sizeLine by decide), fun L nL => ⟨.ref L, .int 0, rfl, ?_⟩⟩
    have askIn := mem_rows.mp G.asks
    have s0 : Same H (upd H L (.lst [])) := same_new nL
    have e0 : (upd H L (.lst [])) L = some (.lst []) := upd_same
    generalize upd H L (.lst []) = H1 at s0 e0 ⊢
    refine ⟨.ref pw, rfl, .ref pw, rfl, pw, _, 1, .str g.asks, rfl, rfl, tupS s0 hpw, atI_nat (j := 1) rfl, .int p, rfl, (show 2 ≤ sizeLine by decide), fun t nt => ?_⟩
    have s1 : Same H1 (upd H1 t (.tup [.str g.asks, .int p])) := same_new nt
    have et : (upd H1 t (.tup [.str g.asks, .int p])) t = some (.tup [.str g.asks, .int p]) := upd_same
    have e1 := s1 _ _ e0
    have s01 := s0.trans s1
    generalize upd H1 t (.tup [.str g.asks, .int p]) = H2 at s1 e1 s01 et ⊢
    refine ⟨.ref pw, .ref t, g, (g.asks, p), rfl, pg.same s01, by have := G.few; omega, PrAt.dp ⟨t, rfl, et⟩, askIn, fun H3 s3 => ⟨_, rfl, ?_⟩⟩
    have s03 := s01.trans s3
    have e3 := s3 _ _ e1
    have ask_nm : nameB (.str g.asks) = true := by
      obtain ⟨e, he, ee⟩ := List.mem_map.mp G.asks
      exact ee ▸ G.nm e he
    have kn_good : ∀ {t : Str × Int}, (rowOf g t.1).isSome = true → t.2.natAbs < 1000 → goodD (dPr t) = true := fun {t} k b => by
      obtain ⟨e, he⟩ := Option.isSome_iff_exists.mp k
      obtain ⟨em, en⟩ := row_is he
      exact pr_good (en ▸ G.nm e em) b
    refine if_rest (fun G1 => Same H G1 ∧ ∃ acc, G1 L = some (.lst acc) ∧ PrsAt G1 acc (firstF g p)) (fun z k => ?_) (fun z k => k H3 ⟨s03, [], e3, by unfold firstF; rw [z]; exact .nil⟩) fun G1 ⟨s4, acc0, e4, h4⟩ => ?_
    · refine ⟨.ref L, rfl, .inl ⟨rfl, _, .inl (.inl e3)⟩, .ref pw, rfl, pw, _, 1, .str g.asks, rfl, rfl, tupS s03 hpw, atI_nat (j := 1) rfl, .int p, rfl, (show 2 ≤ sizeLine by decide), fun t2 nt2 => ?_⟩
      have ne : L ≠ t2 := ne_of_none e3 nt2
      refine ⟨L, _, _, rfl, rfl, (upd_ne ne).trans e3, (show 0 < sizeLine by decide), ?_⟩
      refine k _ ⟨putS (putS s03 (s03.free nt2)) nL, _, upd_same, ?_⟩
      unfold firstF
      rw [z]
      exact .cons ⟨t2, rfl, by rw [upd_ne (Ne.symm ne), upd_same]⟩ .nil
    · refine ⟨fun m σ G => ∃ (tn : Nat) (y : Option V) (acc : List V) (fs : List (Str × Int)), m = 28 - tn ∧ σ = [some (.ref pw), some (.int p), some (.ref L), some (.int (tn : Nat)), y] ∧ Same H G ∧ G L = some (.lst acc) ∧ PrsAt G acc fs ∧ GoodF g p fs ∧ bfs g (28 - tn) tn fs = foundP g p ∧ tn ≤ fs.length,
        ⟨28, 0, none, acc0, firstF g p, rfl, rfl, s4, e4, h4, GoodF.first G, rfl, Nat.zero_le _⟩, ?_⟩
      rintro m σ G2 ⟨tn, y, acc, fs, rfl, rfl, s5, e5, h5, gd, eb, tl⟩
      have few := gd.few G p6
      have la := h5.len
      refine ⟨.int (tn : Nat), rfl, .ref L, rfl, L, acc, rfl, .inl (.inl (.inl e5)), (tn : Nat), (acc.length : Nat), rfl, rfl, _, rfl, ?_⟩
      by_cases lt : tn < fs.length
      · rw [decide_eq_true (show ((tn : Nat) : Int) < (acc.length : Nat) by omega)]
        refine iteT ⟨fun σ' H' => ∃ m', m' < 28 - tn ∧ ∃ (tn : Nat) (y : Option V) (acc : List V) (fs : List (Str × Int)), m' = 28 - tn ∧ σ' = [some (.ref pw), some (.int p), some (.ref L), some (.int (tn : Nat)), y] ∧ Same H H' ∧ H' L = some (.lst acc) ∧ PrsAt H' acc fs ∧ GoodF g p fs ∧ bfs g (28 - tn) tn fs = foundP g p ∧ tn ≤ fs.length, fun σ' H' z => z, ?_⟩
        have hs : fs[tn]? = some (fs[tn]'lt) := List.getElem?_eq_getElem lt
        generalize fs[tn]'lt = s0 at hs
        have hx : acc[tn]? = some (acc[tn]'(by omega)) := List.getElem?_eq_getElem (by omega)
        obtain ⟨s', hs', pr⟩ := h5.get hx
        obtain rfl : s0 = s' := Option.some.inj (hs.symm.trans hs')
        have mem := List.mem_of_getElem? hs
        refine ⟨.ref pw, rfl, .ref L, rfl, .int (tn : Nat), rfl, L, acc, (tn : Nat), _, rfl, rfl, .inl (.inl e5), atI_nat hx, .ref pw, _, g, s0, rfl, pg.same s5, G, pr.dp, (gd.all s0 mem).1, fun l ys G3 s6 nl el hys => ⟨l, rfl, ⟨ys, .inl (.inl el)⟩, ?_⟩⟩
        have e6 := s6 _ _ e5
        have h6 := h5.ts (ts_same s6)
        have s56 := s5.trans s6
        have nel : L ≠ l := ne_of_none e5 nl
        have eb2 : bfs g (28 - (tn + 1)) (tn + 1) (addP g fs (lvOf g s0)) = foundP g p := by
          rw [← eb, show 28 - tn = (28 - (tn + 1)) + 1 by omega]
          show _ = (match fs[tn]? with | none => fs | some s => bfs g (28 - (tn + 1)) (tn + 1) (addP g fs (lvOf g s)))
          rw [hs]
        have known := gd.left G mem
        have low : ∀ t ∈ lvOf g s0, s0.2 - 9 ≤ t.2 := fun t h => lv_low G h
        generalize lvOf g s0 = ts at hys eb2 known low
        have lts := hys.len
        refine for_it walk_list (fun j σ G4 => ∃ y acc', σ = [some (.ref pw), some (.int p), some (.ref L), some (.int (tn : Nat)), y] ∧ Same H G4 ∧ G4 l = some (.lst ys) ∧ G4 L = some (.lst acc') ∧ PrsAt G4 acc' (addP g fs (ts.take j)) ∧ PrsAt G4 ys ts)
          ⟨_, acc, rfl, s56, el, e6, h6, hys⟩ (fun j σ G4 _ ⟨_, _, _, _, z, _⟩ => .inl (.inl z)) ?_ ?_
        · rintro j x σ G4 G5 hj ⟨y4, acc', rfl, s7, el4, e7, h7, hys4⟩ ⟨rfl, hxj⟩
          obtain ⟨t0, ht, pt⟩ := hys4.get hxj
          have gj : GoodF g p (addP g fs (ts.take j)) := gd.add G fun t h => known t (List.mem_of_mem_take h)
          have kn := known t0 (List.mem_of_getElem? ht)
          have lj := gj.few G p6
          have lj2 := h7.len
          have sn := addP_snoc (g := g) (acc := fs) ht
          refine ⟨x, rfl, .ref L, rfl, dPr t0, (addP g fs (ts.take j)).map dPr, pt.dp, .lst (.inl (.inl e7)) h7.dp, ?_, prs_lay fun s hs => kn_good (gj.all s hs).1 (by have := (gj.all s hs).2.2; omega), (show 1 ≤ 60 by decide), _, rfl, ?_⟩
          · have := low t0 (List.mem_of_getElem? ht)
            have := (gd.all s0 mem).2.2
            exact good_shaped (kn_good kn.1 (by omega)) (show 1 ≤ 64 by decide)
          rw [any_pr, Bool.bne_true]
          rw [decide_not] at sn
          by_cases m : t0 ∈ addP g fs (ts.take j)
          · rw [decide_eq_true m] at sn ⊢
            refine iteF ⟨_, acc', rfl, s7, el4, e7, ?_, hys4⟩
            rw [sn]
            exact h7
          · rw [decide_eq_false m] at sn ⊢
            refine iteT ⟨.ref pw, rfl, x, rfl, .ref pw, x, g, t0, rfl, pg.same s7, by have := G.few; omega, pt.dp, kn.1, fun G6 s8 => ⟨_, rfl, ?_⟩⟩
            have e8 := s8 _ _ e7
            have h8 := h7.ts (ts_same s8)
            have hys8 := hys4.ts (ts_same s8)
            cases zc : canB g t0.1 t0.2
            · rw [zc] at sn
              refine iteF ⟨_, acc', rfl, s7.trans s8, s8 _ _ el4, e8, ?_, hys8⟩
              rw [sn]
              exact h8
            · rw [zc] at sn
              refine iteT ⟨.ref L, rfl, .inl ⟨rfl, _, .inl (.inl e8)⟩, x, rfl, L, acc', x, rfl, rfl, e8, small' (by omega), ?_⟩
              have t9 : TS G6 (upd G6 L (.lst (acc' ++ [x]))) := ts_lst e8
              refine ⟨_, acc' ++ [x], rfl, putS (s7.trans s8) nL, (upd_ne nel.symm).trans (s8 _ _ el4), upd_same, ?_, hys8.ts t9⟩
              rw [sn]
              exact PrsAt.app (h8.ts t9) (.cons ((pt.ts (ts_same s8)).ts t9) .nil)
        · rintro σ G4 ⟨y4, acc', rfl, s7, el4, e7, h7, hys4⟩
          rw [lts, List.take_length] at h7
          refine ⟨.int (tn : Nat), rfl, (tn : Nat), 1, rfl, rfl, ?_⟩
          have gd' : GoodF g p (addP g fs ts) := gd.add G known
          refine ⟨28 - (tn + 1), by omega, tn + 1, y4, acc', _, rfl, rfl, s7, e7, h7, gd', eb2, ?_⟩
          have := addP_len (g := g) (fs := fs) (ts := ts)
          omega
      · rw [decide_eq_false (show ¬ ((tn : Nat) : Int) < (acc.length : Nat) by omega)]
        have efs : fs = foundP g p := by
          rw [← eb]
          have z : fs[tn]? = none := List.getElem?_eq_none_iff.mpr (by omega)
          cases hk : 28 - tn with
          | zero => rfl
          | succ k =>
            show fs = (match fs[tn]? with | none => fs | some s => bfs g k (tn + 1) (addP g fs (lvOf g s)))
            rw [z]
        subst efs
        obtain ⟨cs, c1, c2, hcs⟩ := prs_zip h5
        refine iteF ⟨.ref L, rfl, L, cs.map fun c => (c.1, dPr c.2), rfl, .inl (.inl ?_), ?_, ?_, ?_, fun l qs nl pm pw => ?_⟩
        · rw [List.map_map]
          exact (show cs.map (·.1) = acc from c1) ▸ e5
        · intro c hc
          obtain ⟨c0, hc0, rfl⟩ := List.mem_map.mp hc
          exact ⟨(hcs c0 hc0).dp, (show 1 ≤ 8 by decide)⟩
        · rw [List.map_map]
          have : cs.map ((·.2) ∘ fun c : V × (Str × Int) => (c.1, dPr c.2)) = (cs.map (·.2)).map dPr := by rw [List.map_map]; rfl
          rw [this]
          exact pr_alike _
        · rw [List.map_map]
          have : cs.map ((·.2) ∘ fun c : V × (Str × Int) => (c.1, dPr c.2)) = (cs.map (·.2)).map dPr := by rw [List.map_map]; rfl
          rw [this]
          exact pr_sortable _
        · obtain ⟨ds, pd, rfl⟩ := lift_perm qs cs pm
          have at2 : ∀ c ∈ ds, PrAt G2 c.1 c.2 := fun c hc => hcs c (pd.mem_iff.mp hc)
          have s10 := s5.trans (same_new (o := .lst ((ds.map fun c : V × (Str × Int) => (c.1, dPr c.2)).map (·.1))) nl)
          refine ⟨l, _, rfl, .inl ⟨.inl (.inl upd_same), fun tq ntq => ?_⟩⟩
          have eds : (ds.map fun c : V × (Str × Int) => (c.1, dPr c.2)).map (·.1) = ds.map (·.1) := by rw [List.map_map]; rfl
          rw [eds] at s10 ntq ⊢
          refine q tq (ds.map (·.1)) (ds.map (·.2)) _ (putS s10 (s10.free ntq)) upd_same (((prs_of_cs at2).ts (ts_same (same_new nl))).ts (ts_same (same_new ntq))) ?_ ?_
          · rw [← c2]
            exact pd.map _
          · refine asc_of pw ((pd.map _).nodup_iff.mpr ?_)
            rw [c2]
            exact (found_good G).nd
end
end Kn


namespace Kn
open PySem PySem.Spec PyProof.Rows L2
abbrev nSc : List Str := ["_law_found"]
theorem scSc : FnScope nSc [] (defScope (topS 47)) := ⟨rfl, rfl, rfl, by decide +kernel, rfl, by decide +kernel, by decide +kernel⟩
def sc1 : List (Str × Int) := [("a1bd b1c c1 d1b", 2), ("a1bd b1c c1 d1b", 3), ("a1bd b1c c1 d1bd", 3), ("a1a", 2), ("a1a", 3)]
def sc2 : List (Str × Int) := [("a1b b1a", 3), ("a1bd b1c c1 d2b", 3), ("a1b b1*c c1", 3), ("a1c c1c", 3), ("a2a", 3)]
def sc3 : List (Str × Int) := [("a1bd b2c c1 d1b", 3), ("a1bd b2c c1 d1ab", 3), ("a3b b1", 2), ("a1b b1bc c2b", 4), ("a1", 1)]
def sc4 : List (Str × Int) := [("a1b b1 c1*", 2), ("a1bc b2a c1b", 4), ("a1ab b1ab", 3), ("a2bc b1*a c1a", 5)]
def scenesL : List (Str × Int) := sc1 ++ sc2 ++ sc3 ++ sc4
/-- a display of pairs -/
def tPs : List (Str × Int) → TA
  | [] => tNil
  | s :: r => tCons (tTup (tCons (tC (.str s.1)) (tCons (tC (.int s.2)) tNil))) (tPs r)
theorem ps_all : ∀ (ss : List (Str × Int)) (σ : L2.St) (H : Hp) (R : List V → Hp → Prop), (∀ vs H', Same H H' → PrsAt H' vs ss → R vs H') → tPs ss σ H R
  | [], σ, H, R, k => k [] H (Same.refl H) .nil
  | s :: r, σ, H, R, k => by
    refine ⟨(show 2 ≤ sizeLine by decide), fun t nt => ?_⟩
    refine ps_all r σ _ _ fun vs H' sm hv => ?_
    exact k (.ref t :: vs) H' ((same_new nt).trans sm) (.cons ⟨t, rfl, sm _ _ upd_same⟩ hv)
theorem lst_all {ss : List (Str × Int)} {σ : L2.St} {H : Hp} {Q : VK} (few : ss.length ≤ 100) (k : ∀ (l : Addr) (vs : List V) (H' : Hp), Same H H' → H' l = some (.lst vs) → PrsAt H' vs ss → Q (.ref l) H') : tLst (tPs ss) σ H Q :=
  ps_all ss σ H _ fun vs H' sm hv => ⟨by rw [hv.len]; exact Nat.le_trans few (by decide), fun p np => k p vs _ (sm.trans (same_new np)) upd_same (hv.ts (ts_same (same_new np)))⟩
theorem cat_all {xs zs : List (Str × Int)} {a b : List V} {H1 : Hp} {l1 l2 : Addr} {R : VK} (few : xs.length + zs.length ≤ 100) (e1 : H1 l1 = some (.lst a)) (h1 : PrsAt H1 a xs) (e2 : H1 l2 = some (.lst b)) (h2 : PrsAt H1 b zs)
    (k : ∀ l3 H3, Same H1 H3 → H3 l3 = some (.lst (a ++ b)) → PrsAt H3 (a ++ b) (xs ++ zs) → R (.ref l3) H3) : rCat (.ref l1) (.ref l2) H1 R := by
  refine ⟨l1, l2, a, b, rfl, rfl, e1, e2, ?_, fun p np => k p _ (same_new np) upd_same ((PrsAt.app h1 h2).ts (ts_same (same_new np)))⟩
  rw [h1.len, h2.len]
  exact Nat.le_trans few (by decide)
def spSc : Sp := fun vs H Q _ => vs = [] ∧ ∀ (l : Addr) (ys : List V) (H' : Hp), Same H H' → H' l = some (.lst ys) → PrsAt H' ys scenesL → Q (.ref l) H'
section
variable {P : Program} {w : World} {K : PySem.W.Frag} {mg : Str → Option Value} {base : Heap}
theorem ok_sc {f : Addr} {fd : FuncData} (F : Fun K "_law_scenes" "_law_scenes" (topS 47) f fd) : FnOk P w K mg base CX0 1 f fd [] spSc := by
  refine F.ok scSc (fun vs H Q E h => ?_) (fun cdv A outer s H vs Q E hr h => ?_)
  · obtain ⟨rfl, _⟩ := h
    rfl
  · obtain ⟨rfl, q⟩ := h
    refine ⟨_, (pss_cons (ps_set (i := 0) scSc.nd rfl (.inl rfl) (pe_lst (pa_cons (pe_tup (pa_cons pe_str (pa_cons pe_int pa_nil))) (pa_cons (pe_tup (pa_cons pe_str (pa_cons pe_int pa_nil))) (pa_cons (pe_tup (pa_cons pe_str (pa_cons pe_int pa_nil))) (pa_cons (pe_tup (pa_cons pe_str (pa_cons pe_int pa_nil))) (pa_cons (pe_tup (pa_cons pe_str (pa_cons pe_int pa_nil))) pa_nil)))))))
      (pss_cons (ps_set (i := 0) scSc.nd rfl (.inl rfl) (pe_op op_cat (pv 0) (pe_lst (pa_cons (pe_tup (pa_cons pe_str (pa_cons pe_int pa_nil))) (pa_cons (pe_tup (pa_cons pe_str (pa_cons pe_int pa_nil))) (pa_cons (pe_tup (pa_cons pe_str (pa_cons pe_int pa_nil))) (pa_cons (pe_tup (pa_cons pe_str (pa_cons pe_int pa_nil))) (pa_cons (pe_tup (pa_cons pe_str (pa_cons pe_int pa_nil))) pa_nil))))))))
      (pss_cons (ps_set (i := 0) scSc.nd rfl (.inl rfl) (pe_op op_cat (pv 0) (pe_lst (pa_cons (pe_tup (pa_cons pe_str (pa_cons pe_int pa_nil))) (pa_cons (pe_tup (pa_cons pe_str (pa_cons pe_int pa_nil))) (pa_cons (pe_tup (pa_cons pe_str (pa_cons pe_int pa_nil))) (pa_cons (pe_tup (pa_cons pe_str (pa_cons pe_int pa_nil))) (pa_cons (pe_tup (pa_cons pe_str (pa_cons pe_int pa_nil))) pa_nil))))))))
      (pss_one (ps_ret (pe_op op_cat (pv 0) (pe_lst (pa_cons (pe_tup (pa_cons pe_str (pa_cons pe_int pa_nil))) (pa_cons (pe_tup (pa_cons pe_str (pa_cons pe_int pa_nil))) (pa_cons (pe_tup (pa_cons pe_str (pa_cons pe_int pa_nil))) (pa_cons (pe_tup (pa_cons pe_str (pa_cons pe_int pa_nil))) pa_nil))))))))))), ?_⟩
    dsimp only [tSeq, tAsg]
    refine lst_all (ss := sc1) (by decide) fun l1 v1 H1 s1 e1 h1 => ?_
    refine ⟨.ref l1, rfl, lst_all (ss := sc2) (by decide) fun l2 v2 H2 s2 e2 h2 => cat_all (xs := sc1) (zs := sc2) (by decide) (s2 _ _ e1) (h1.ts (ts_same s2)) e2 h2 fun l3 H3 s3 e3 h3 => ?_⟩
    refine ⟨.ref l3, rfl, lst_all (ss := sc3) (by decide) fun l4 v4 H4 s4 e4 h4 => cat_all (xs := sc1 ++ sc2) (zs := sc3) (by decide) (s4 _ _ e3) (h3.ts (ts_same s4)) e4 h4 fun l5 H5 s5 e5 h5 => ?_⟩
    refine ⟨.ref l5, rfl, lst_all (ss := sc4) (by decide) fun l6 v6 H6 s6 e6 h6 => cat_all (xs := sc1 ++ sc2 ++ sc3) (zs := sc4) (by decide) (s6 _ _ e5) (h5.ts (ts_same s6)) e6 h6 fun l7 H7 s7 e7 h7 => ?_⟩
    exact q l7 _ H7 (fun b o z => s7 _ _ (s6 _ _ (s5 _ _ (s4 _ _ (s3 _ _ (s2 _ _ (s1 _ _ z))))))) e7 h7
end
end Kn


namespace Kn
open PySem PySem.Spec PyProof.Rows L2
abbrev nNm : List Str := ["_law_words", "_law_names", "_law_dubbed", "_law_rows", "_law_own", "_law_letters", "_law_sign", "_law_j"]
theorem scNm : FnScope nNm ["_law_words", "_law_names"] (defScope (topS 48)) := ⟨rfl, rfl, rfl, by decide +kernel, rfl, by decide +kernel, by decide +kernel⟩
/-! ### words of a web -/
def headC (x : Str) : Nat := x.cps.toList.getD 0 0
def wordB (hs : List Nat) (x : Str) : Bool := match x.cps.toList with
  | a :: c :: rest => decide (a ∈ hs) && decide (49 ≤ c ∧ c ≤ 57) && (rest.all fun d => decide (d = 42 ∨ d ∈ hs)) && decide (rest.length ≤ 5)
  | _ => false
structure WsOk (ws : List Str) : Prop where
  l1 : 1 ≤ ws.length
  l4 : ws.length ≤ 4
  nd : (ws.map headC).Nodup
  le : ∀ d ∈ ws.map headC, 97 ≤ d ∧ d < 101
  a : 97 ∈ ws.map headC
  each : ∀ x ∈ ws, wordB (ws.map headC) x = true
theorem word_is {hs : List Nat} {x : Str} (h : wordB hs x = true) : ∃ a c rest, x.cps.toList = a :: c :: rest ∧ headC x = a ∧ a ∈ hs ∧ (49 ≤ c ∧ c ≤ 57) ∧ (∀ d ∈ rest, d = 42 ∨ d ∈ hs) ∧ rest.length ≤ 5 := by
  unfold wordB at h
  match hx : x.cps.toList, h with
  | a :: c :: rest, h =>
    rw [Bool.and_eq_true, Bool.and_eq_true, Bool.and_eq_true] at h
    exact ⟨a, c, rest, rfl, by unfold headC; rw [hx]; rfl, of_decide_eq_true h.1.1.1, of_decide_eq_true h.1.1.2, fun d hd => of_decide_eq_true (List.all_eq_true.mp h.1.2 d hd), of_decide_eq_true h.2⟩
structure NmOk (nm : List Str) : Prop where
  len : nm.length = 4
  nd : nm.Nodup
  good : ∀ x ∈ nm, nameB (.str x) = true
def nmAt (nm : List Str) (d : Nat) : Str := nm.getD (d - 97) ""
def rowW (nm : List Str) (rest : List Nat) : List Str := (rest.filter fun d => decide (d ≠ 42)).map (nmAt nm)
structure EntW (nm : List Str) (x : Str) (e : Ent) : Prop where
  ex : ∃ a c rest, x.cps.toList = a :: c :: rest ∧ e.name = nmAt nm a ∧ e.fee = (c : Int) - 48 ∧ e.has = decide (42 ∈ x.cps.toList) ∧ e.row.Perm (rowW nm rest)
structure NamedG (g : Pg) (ws nm : List Str) : Prop where
  asks : g.asks = nm.getD 0 ""
  rows : ∃ es1 : List Ent, g.es.Perm es1 ∧ es1.length = ws.length ∧ ∀ (j : Nat) (x : Str), ws[j]? = some x → ∃ e, es1[j]? = some e ∧ EntW nm x e
theorem nm_in {nm : List Str} (N : NmOk nm) {d : Nat} (h : 97 ≤ d ∧ d < 101) : nmAt nm d ∈ nm ∧ nm[d - 97]? = some (nmAt nm d) := by
  have l := N.len
  have e : nm[d - 97]? = some (nm[d - 97]'(by omega)) := List.getElem?_eq_getElem (by omega)
  have z : nmAt nm d = nm[d - 97]'(by omega) := by
    unfold nmAt
    rw [List.getD_eq_getElem?_getD, e]
    rfl
  rw [z]
  exact ⟨List.getElem_mem _, e⟩
theorem nm_inj {nm : List Str} (N : NmOk nm) {d e : Nat} (hd : 97 ≤ d ∧ d < 101) (he : 97 ≤ e ∧ e < 101) (h : nmAt nm d = nmAt nm e) : d = e := by
  have l := N.len
  have a := (nm_in N hd).2
  have b := (nm_in N he).2
  rw [h] at a
  have := (List.getElem?_inj (by omega) N.nd).mp (a.trans b.symm)
  omega
theorem named_good {g : Pg} {ws nm : List Str} (W : WsOk ws) (N : NmOk nm) (h : NamedG g ws nm) : GW g := by
  obtain ⟨es1, pm, le, each⟩ := h.rows
  have l1 := W.l1
  have l4 := W.l4
  have nameAt : ∀ j e, es1[j]? = some e → ∃ x, ws[j]? = some x ∧ EntW nm x e ∧ e.name = nmAt nm (headC x) := fun j e hj => by
    have lt := (List.getElem?_eq_some_iff.mp hj).1
    have hx : ws[j]? = some (ws[j]'(by omega)) := List.getElem?_eq_getElem (by omega)
    obtain ⟨e', he', E⟩ := each j _ hx
    rw [hj] at he'
    cases he'
    obtain ⟨a0, c, rest, hc, hh, _⟩ := word_is (W.each _ (List.mem_of_getElem? hx))
    obtain ⟨a, c', rest', hc', n, _⟩ := E.ex
    rw [hc] at hc'
    injection hc' with z _
    exact ⟨_, hx, E, by rw [n, hh, ← z]⟩
  have inH : ∀ j x, ws[j]? = some x → headC x ∈ ws.map headC := fun j x hx => List.mem_map.mpr ⟨x, List.mem_of_getElem? hx, rfl⟩
  have nd1 : (es1.map (·.name)).Nodup := by
    refine List.pairwise_iff_getElem.mpr fun i j hi hj hij z => ?_
    rw [List.length_map] at hi hj
    rw [List.getElem_map, List.getElem_map] at z
    obtain ⟨x, hx, _, a⟩ := nameAt i _ (List.getElem?_eq_getElem hi)
    obtain ⟨y, hy, _, b⟩ := nameAt j _ (List.getElem?_eq_getElem hj)
    rw [a, b] at z
    have ee := nm_inj N (W.le _ (inH i x hx)) (W.le _ (inH j y hy)) z
    have := (List.getElem?_inj (i := i) (j := j) (by rw [List.length_map]; omega) W.nd).mp (by rw [List.getElem?_map, List.getElem?_map, hx, hy]; exact congrArg some ee)
    omega
  have pmn := pm.map (·.name)
  have nameIn : ∀ d ∈ ws.map headC, nmAt nm d ∈ g.es.map (·.name) := fun d hd => by
    obtain ⟨x, hx, rfl⟩ := List.mem_map.mp hd
    obtain ⟨j, hj, ej⟩ := List.mem_iff_getElem.mp hx
    have lt : j < es1.length := by omega
    obtain ⟨x', hx', _, n⟩ := nameAt j _ (List.getElem?_eq_getElem lt)
    rw [List.getElem?_eq_getElem hj, ej] at hx'
    cases hx'
    rw [pmn.mem_iff, ← n]
    exact List.mem_map.mpr ⟨_, List.getElem_mem lt, rfl⟩
  have ok1 : ∀ e ∈ g.es, nameB (.str e.name) = true ∧ (1 ≤ e.fee ∧ e.fee ≤ 9) ∧ e.row.length ≤ 5 ∧ ∀ s ∈ e.row, s ∈ g.es.map (·.name) := fun e he => by
    obtain ⟨j, hj, ej⟩ := List.mem_iff_getElem.mp (pm.mem_iff.mp he)
    obtain ⟨x, hx, E, nn⟩ := nameAt j e (by rw [List.getElem?_eq_getElem hj, ej])
    obtain ⟨a0, c, rest, hc, hh, ha, hd, hr, hl⟩ := word_is (W.each _ (List.mem_of_getElem? hx))
    obtain ⟨a, c', rest', hc', n, f, _, r⟩ := E.ex
    rw [hc] at hc'
    injection hc' with z1 z2
    injection z2 with z2 z3
    subst z1 z2 z3
    refine ⟨?_, ⟨by omega, by omega⟩, ?_, fun s hs => ?_⟩
    · rw [n]
      exact N.good _ (nm_in N (W.le _ ha)).1
    · rw [r.length_eq]
      unfold rowW
      rw [List.length_map]
      exact Nat.le_trans (List.length_filter_le _ _) hl
    · have hs := r.mem_iff.mp hs
      unfold rowW at hs
      obtain ⟨d, hd', rfl⟩ := List.mem_map.mp hs
      obtain ⟨hd1, hd2⟩ := List.mem_filter.mp hd'
      have nd42 := of_decide_eq_true hd2
      rcases hr d hd1 with z | z
      · exact absurd z nd42
      · exact nameIn d z
  have fit : ∀ x, nameB (.str x) = true → Fit 8 x := fun x hx => by
    have h : (decide (1 ≤ x.length) && decide (x.length ≤ 8) && lowB x) = true := hx
    rw [Bool.and_eq_true, Bool.and_eq_true] at h
    refine ⟨of_decide_eq_true h.1.2, fun c hc => ?_⟩
    have y := of_decide_eq_true (List.all_eq_true.mp h.2 c hc)
    omega
  have lg : g.es.length ≤ 4 := by rw [pm.length_eq]; omega
  have ask0 : g.asks ∈ g.es.map (·.name) := by
    rw [h.asks]
    exact nameIn 97 W.a
  refine ⟨⟨by omega, fun e he => ?_, ?_⟩, pmn.nodup_iff.mpr nd1, fun e he => (ok1 e he).2.1, fun e he => (ok1 e he).2.2.2, ask0, fun e he => (ok1 e he).1, lg, fun e he => (ok1 e he).2.2.1⟩
  · obtain ⟨n, f, r5, t⟩ := ok1 e he
    refine ⟨fit _ n, Nat.lt_of_lt_of_le (show e.fee.natAbs < 10 by omega) (by decide), by omega, fun s hs => ?_⟩
    obtain ⟨e', he', ee⟩ := List.mem_map.mp (t s hs)
    exact ee ▸ fit _ (ok1 e' he').1
  · obtain ⟨e, he, ee⟩ := List.mem_map.mp ask0
    exact ee ▸ fit _ (ok1 e he).1
def NmAt (K : PySem.W.Frag) (H : Hp) (y : V) (nm : List Str) : Prop := (∃ l, y = .ref l ∧ SqL K H l (nm.map V.str)) ∨ (y = .str "abcd" ∧ nm = [("a" : Str), "b", "c", "d"])
def dEnt (e : Ent) : PyData := .tuple [.str e.name, .int e.fee, .bool e.has, .tuple (e.row.map PyData.str)]
open PySem.W (dataLe dataLt keyToks keyToksAll alike alikeAll AllAlike Sortable EachIs dataLe_eq dataLe_str dataLt_cons dataLt_tuple)
theorem lt_str (a b : Str) : (!dataLt (.str b) (.str a)) = leS a b := by
  have z := congrFun (congrFun (dataLe_str (fun s : Str => s)) a) b
  rw [dataLe_eq] at z
  exact z
theorem le_entN {x y : Ent} (h : x.name ≠ y.name) : (!dataLt (dEnt y) (dEnt x)) = leS x.name y.name := by
  show (!dataLt (.tuple (.str y.name :: [.int y.fee, .bool y.has, .tuple (y.row.map PyData.str)])) (.tuple (.str x.name :: [.int x.fee, .bool x.has, .tuple (x.row.map PyData.str)]))) = _
  have n : PyData.eqv (.str y.name) (.str x.name) = false := beq_eq_false_iff_ne.mpr fun z => h z.symm
  rw [dataLt_tuple, dataLt_cons rfl, if_neg (by rw [n]; decide), lt_str]
/-- the kinds in the order of their names -/
def SrtN (g : Pg) : Prop := (g.es.map (·.name)).Pairwise fun a b => leS a b = true
theorem srt_of {cs : List (V × Ent)} {as : Str} (pw : (cs.map fun c => (c.1, dEnt c.2)).Pairwise fun x y => leD (fun p : VD => p.2) x y = true) (nd : ((cs.map (·.2)).map (·.name)).Nodup) : SrtN ⟨cs.map (·.2), as⟩ := by
  have h1 := List.pairwise_map.mp pw
  have h2 := List.pairwise_map.mp (List.pairwise_map.mp (show ((cs.map (·.2)).map (·.name)).Pairwise (· ≠ ·) from nd))
  refine List.pairwise_map.mpr (List.pairwise_map.mpr ((h1.and h2).imp fun {x y} h => ?_))
  rw [← le_entN h.2]
  have z : dataLe false (fun p : VD => p.2) (x.1, dEnt x.2) (y.1, dEnt y.2) = true := h.1
  rw [dataLe_eq] at z
  exact z
def spNm (K : PySem.W.Frag) : Sp := fun vs H Q _ => ∃ (lw : Addr) (y : V) (ws nm : List Str), vs = [.ref lw, y] ∧ SqL K H lw (ws.map V.str) ∧ NmAt K H y nm ∧ WsOk ws ∧ NmOk nm ∧
  ∀ (v : V) (g : Pg) (H' : Hp), Same H H' → PgAt K H' v g → NamedG g ws nm → SrtN g → Q v H'
theorem sqlKeep {K : PySem.W.Frag} {H H' : Hp} {a : Addr} {xs : List V} (s : Same H H') (h : SqL K H a xs) : SqL K H' a xs := by
  rcases h with (h | ⟨o, h⟩) | h
  · exact .inl (.inl (s _ _ h))
  · exact .inl (.inr ⟨o, s _ _ h⟩)
  · exact .inr h
theorem cut2 {x : Str} {a c : Nat} {rest : List Nat} (h : x.cps.toList = a :: c :: rest) : cutS x (some 2) none = ⟨rest.toArray⟩ := by
  obtain ⟨⟨l⟩⟩ := x
  have h : l = a :: c :: rest := h
  subst h
  have e : HT.sIx (a :: c :: rest).length 0 (some 2) = 2 := by
    show min (2 : Int).toNat (a :: c :: rest).length = 2
    rw [List.length_cons, List.length_cons]
    show min 2 (rest.length + 1 + 1) = 2
    omega
  show (⟨(((a :: c :: rest).drop (HT.sIx (a :: c :: rest).length 0 (some 2))).take ((a :: c :: rest).length - HT.sIx (a :: c :: rest).length 0 (some 2))).toArray⟩ : Str) = _
  rw [e]
  show (⟨(rest.take ((a :: c :: rest).length - 2)).toArray⟩ : Str) = _
  rw [List.take_of_length_le (by rw [List.length_cons, List.length_cons]; omega)]
theorem strs_dp {K : PySem.W.Frag} {H : Hp} : ∀ ts : List Str, DpAll K H (ts.map V.str) (ts.map PyData.str)
  | [] => .nil
  | t :: r => .cons (.str t) (strs_dp r)
theorem EntAt.dp {K : PySem.W.Frag} {H : Hp} {v : V} {e : Ent} : EntAt K H v e → Dp K H v (dEnt e) := fun ⟨_, _, a, b, c⟩ => a ▸ .tup b (.cons (.str _) (.cons (.int _) (.cons (.bl _) (.cons (.tup c (strs_dp _)) .nil))))
theorem strs_alike : ∀ ts us : List Str, PySem.W.alikeAll (ts.map PyData.str) (us.map PyData.str) = true
  | [], [] => rfl
  | [], _ :: _ => rfl
  | _ :: _, [] => rfl
  | t :: ts, u :: us => by
    show (true && PySem.W.alikeAll (ts.map PyData.str) (us.map PyData.str)) = true
    rw [strs_alike ts us]
    rfl
theorem ent_alike (e e' : Ent) : PySem.W.alike (dEnt e) (dEnt e') = true := by
  show (true && (true && (true && (PySem.W.alikeAll (e.row.map PyData.str) (e'.row.map PyData.str) && true)))) = true
  rw [strs_alike]
  rfl
theorem strs_flat0 : ∀ ts : List Str, PyData.depthAll (ts.map PyData.str) = 0
  | [] => rfl
  | t :: r => by
    show max 0 (PyData.depthAll (r.map PyData.str)) = 0
    rw [strs_flat0 r]
    rfl
theorem ent_deep (e : Ent) : (dEnt e).depth ≤ 8 := by
  have z : (dEnt e).depth = max 0 (max 0 (max 0 (max (PyData.depthAll (e.row.map PyData.str) + 1) 0))) + 1 := rfl
  rw [z, strs_flat0]
  decide
theorem ents_zip {K : PySem.W.Frag} {H : Hp} : ∀ {vs : List V} {es : List Ent}, EntsAt K H vs es → ∃ cs : List (V × Ent), cs.map (·.1) = vs ∧ cs.map (·.2) = es ∧ ∀ c ∈ cs, EntAt K H c.1 c.2
  | _, _, .nil => ⟨[], rfl, rfl, fun _ h => by cases h⟩
  | _, _, .cons (v := v) (e := s) a b => by
    obtain ⟨cs, e1, e2, h⟩ := ents_zip b
    refine ⟨(v, s) :: cs, by rw [List.map_cons, e1], by rw [List.map_cons, e2], fun c hc => ?_⟩
    rcases List.mem_cons.mp hc with rfl | hc
    · exact a
    · exact h c hc
theorem ents_of {K : PySem.W.Frag} {H : Hp} : ∀ {cs : List (V × Ent)}, (∀ c ∈ cs, EntAt K H c.1 c.2) → EntsAt K H (cs.map (·.1)) (cs.map (·.2))
  | [], _ => .nil
  | c :: cs, h => .cons (h c (List.mem_cons_self ..)) (ents_of fun x hx => h x (List.mem_cons_of_mem _ hx))
def kvN (nm : List Str) (n : Nat) : List (Key × V) := (List.range n).map fun j => (Sum.inr ⟨#[97 + j]⟩, V.str (nm.getD j ""))
theorem lc_rng4 {K : PySem.W.Frag} {nm : List Str} {slot : Nat} {te : TE} {ta : TA} {vs : List Nat} {σ : L2.St} {H : Hp} {Q : VK} (hta : ∀ R : List V → Hp → Prop, R [.int 4] H → ta σ H R)
    (turn : ∀ (i : Nat) (G : Hp) (R : VK), i < 4 → Same H G → (∀ t, G t = none → R (.ref t) (upd G t (.tup [.str ⟨#[97 + i]⟩, .str (nm.getD i "")]))) → wipe ((wipe σ vs).set slot (some (.int (i : Nat)))) vs = wipe σ vs ∧ te ((wipe σ vs).set slot (some (.int (i : Nat)))) G R)
    (done : ∀ (D : Addr) (ps : List Addr) (G : Hp), Same H G → G D = some (.lst (ps.map V.ref)) → Paired (fun p (kv : Key × V) => SqT K G p [kV kv.1, kv.2]) ps (kvN nm 4) → Q (.ref D) G) : tLc (iRng1 ta) (gName slot) tYes te vs σ H Q := by
  refine hta _ ⟨4, rfl, by omega, by omega, fun D nD => ?_⟩
  refine lc_range (lo := 0) (n := (4 : Int).toNat) (fun i G => Same H G ∧ ∃ ps : List Addr, G D = some (.lst (ps.map V.ref)) ∧ ps.length = i ∧ Paired (fun p (kv : Key × V) => SqT K G p [kV kv.1, kv.2]) ps (kvN nm i)) ⟨same_new nD, [], upd_same, rfl, .nil⟩ ?_ ?_
  · rintro i G hi ⟨sm, ps, hD, lw, hw⟩
    have hi : i < 4 := hi
    rw [Int.zero_add]
    refine ⟨(turn i G (fun _ _ => True) hi sm fun _ _ => trivial).1, ?_⟩
    dsimp only [tYes]
    refine iteT ?_
    refine (turn i G _ hi sm fun t nt => ?_).2
    have ne : D ≠ t := ne_of_none hD nt
    have t1 : TS G (upd G t (.tup [.str ⟨#[97 + i]⟩, .str (nm.getD i "")])) := ts_same (same_new nt)
    have t2 : TS (upd G t (.tup [.str ⟨#[97 + i]⟩, .str (nm.getD i "")])) (upd (upd G t (.tup [.str ⟨#[97 + i]⟩, .str (nm.getD i "")])) D (.lst (ps.map V.ref ++ [.ref t]))) := ts_lst ((upd_ne ne).trans hD)
    refine ⟨ps.map V.ref, (upd_ne ne).trans hD, small' (by rw [List.length_map]; omega), putS (putS sm (sm.free nt)) nD, ps ++ [t], by rw [upd_same, List.map_append]; rfl, by rw [List.length_append, lw]; rfl, ?_⟩
    have e : kvN nm (i + 1) = kvN nm i ++ [(Sum.inr ⟨#[97 + i]⟩, V.str (nm.getD i ""))] := by
      unfold kvN
      rw [List.range_succ, List.map_append]
      rfl
    rw [e]
    exact (hw.mono fun p kv h => tupT t2 (tupT t1 h)).snoc (tupT t2 (.inl (.inl upd_same)))
  · rintro G ⟨sm, ps, hD, lw, hw⟩
    exact done D ps G sm hD hw
section
variable {P : Program} {w : World} {K : PySem.W.Frag} {mg : Str → Option Value} {base : Heap}
theorem ok_nm {f : Addr} {fd : FuncData} (F : Fun K "_law_named" "_law_named" (topS 48) f fd) (mdi : mg "dict" = none) (mr : mg "range" = none) (mi : mg "int" = none) (mt : mg "tuple" = none) (mo : mg "sorted" = none) : FnOk P w K mg base CX0 1 f fd ["_law_words", "_law_names"] (spNm K) := by
  refine F.ok scNm (fun vs H Q E h => ?_) (fun cdv A outer s H vs Q E hr h => ?_)
  · obtain ⟨lw, y, ws, nm, rfl, _⟩ := h
    rfl
  · obtain ⟨lw, y, ws, nm, rfl, hw, hn, W, N, q⟩ := h
    have hu64 := hr.units
    have hu := Nat.lt_of_le_of_lt (Nat.add_le_add_left (show 1 ≤ 64 by decide) _) hu64
    refine ⟨_, (pss_cons (ps_asg (pe_tup (pa_cons (pe_callTy (call_dictP (by rfl)) (by rfl) mdi (by decide +kernel) (pa_cons (pe_lc (own := [("_law_j", 7)]) (g := gName 7) (by rfl) scNm.nd (pi_range1 (by rfl) mr (pa_cons pe_int pa_nil)) (blkOk_by (own := [("_law_j", 7)]) (N := nNm) (sc := defScope (topS 48)) (by decide +kernel)) (fun _ _ _ _ _ => pg_name (i := 7) scNm.nd rfl (Or.inl rfl)) (fun _ _ _ _ _ => pts_nil) (fun _ _ _ _ _ => (pe_tup (pa_cons (pe_ix ix_str pe_str (pv 7) (fun _ _ => rfl)) (pa_cons (pe_ix (r := rIx K) ix_seq (pv 1) (pv 7) (fun _ _ => rfl)) pa_nil))))) pa_nil)) (pa_cons (pe_lst pa_nil) pa_nil))) (pg_tup (by rfl) (pgs_cons (pg_name (i := 2) scNm.nd rfl (.inr rfl)) (pgs_cons (pg_name (i := 3) scNm.nd rfl (.inl rfl)) pgs_nil))))
      (pss_cons (ps_for PassesOwn.never rfl (pi_list (pv 0)) (pg_name (i := 4) scNm.nd rfl (.inl rfl)) (pss_cons (ps_setLc (i := 5) (own := [("_law_sign", 6)]) (g := gName 6) (by rfl) scNm.nd rfl rfl (sw_true rfl rfl rfl (by decide +kernel)) (pi_str (pe_slice sl_str (pv 4) (po_some pe_int) po_none)) (blkOk_by (own := [("_law_sign", 6)]) (N := nNm) (sc := defScope (topS 48)) (by decide +kernel)) (fun _ _ _ _ _ => pg_name (i := 6) scNm.nd rfl (Or.inl rfl)) (fun _ _ _ _ _ => (pts_one (pt_cmpR op_ne (pv 6) pe_str (nomark _)))) (fun _ _ _ _ _ => (pe_dget hu (pv 2) (pv 6) (fun _ _ => rfl))))
      (pss_one (ps_expr (pe_bm PySem.F.plainAttrs_list PySem.F.slot_list_append PySem.F.type_list_append mt_append (pv 3) (pa_cons (pe_tup (pa_cons (pe_dget hu (pv 2) (pe_ix ix_str (pv 4) pe_int (fun _ _ => rfl)) (fun _ _ => rfl)) (pa_cons (pe_callTy call_int_str (by rfl) mi boot_int (pa_cons (pe_ix ix_str (pv 4) pe_int (fun _ _ => rfl)) pa_nil)) (pa_cons (pe_cmpR op_in_sign pe_str (pv 4) (by rfl)) (pa_cons (pe_callTy call_tuple_of (by rfl) mt (by decide +kernel) (pa_cons (pe_callB cr_sortedS (by rfl) mo (by decide +kernel) (pa_cons (pv 5) pa_nil)) pa_nil)) pa_nil))))) pa_nil))))))
      (pss_one (ps_ret (pe_tup (pa_cons (pe_callTy call_tuple_of (by rfl) mt (by decide +kernel) (pa_cons (pe_callB (cr_sortedD hu64) (by rfl) mo (by decide +kernel) (pa_cons (pv 3) pa_nil)) pa_nil)) (pa_cons (pe_dget hu (pv 2) pe_str (fun _ _ => rfl)) pa_nil))))))), ?_⟩
    dsimp only [tSeq, tAsg, tTup, tCons, tCB, tNil]
    have l4 := N.len
    refine lc_rng4 (K := K) (nm := nm) (fun R r => r) ?_ ?_
    · intro i G R hi sm k
      refine ⟨rfl, ?_⟩
      have at4 : ∀ i, i < 4 → atI ("abcd" : Str).cps.toList ((i : Nat) : Int) = some (97 + i) := fun i hi => by
        match i, hi with
        | 0, _ => rfl
        | 1, _ => rfl
        | 2, _ => rfl
        | 3, _ => rfl
      refine ⟨.int (i : Nat), rfl, "abcd", (i : Nat), 97 + i, rfl, rfl, by decide, at4 i hi, y, rfl, .int (i : Nat), rfl, ?_⟩
      have hni : nm[i]? = some (nm.getD i "") := by
        rw [List.getD_eq_getElem?_getD, List.getElem?_eq_getElem (by omega : i < nm.length)]
        rfl
      rcases hn with ⟨l, rfl, hl⟩ | ⟨rfl, en⟩
      · refine .inl ⟨l, _, (i : Nat), .str (nm.getD i ""), rfl, rfl, sqlKeep sm hl, atI_nat (by rw [List.getElem?_map, hni]; rfl), (show 2 ≤ sizeLine by decide), k⟩
      · have e1 : nm.getD i "" = ⟨#[97 + i]⟩ := by
          subst en
          match i, hi with
          | 0, _ => rfl
          | 1, _ => rfl
          | 2, _ => rfl
          | 3, _ => rfl
        rw [e1] at k
        exact .inr (.inr ⟨"abcd", (i : Nat), 97 + i, rfl, rfl, by decide, at4 i hi, (show 2 ≤ sizeLine by decide), k⟩)
    · intro D ps G sm hD hp
      refine ⟨D, ps, kvN nm 4, rfl, .inl (.inl hD), hp, fun Dd nDd => ?_⟩
      have s1 := sm.trans (same_new (o := .dK (mergeK [] (kvN nm 4))) nDd)
      have eD : (upd G Dd (.dK (mergeK [] (kvN nm 4)))) Dd = some (.dK (mergeK [] (kvN nm 4))) := upd_same
      generalize upd G Dd (.dK (mergeK [] (kvN nm 4))) = G1 at s1 eD ⊢
      have look : ∀ d, 97 ≤ d ∧ d < 101 → valV (mergeK [] (kvN nm 4)) (.inr ⟨#[d]⟩) = some (.str (nmAt nm d)) := fun d hd => by
        have : d = 97 ∨ d = 98 ∨ d = 99 ∨ d = 100 := by omega
        rcases this with rfl | rfl | rfl | rfl <;> rfl
      generalize mergeK [] (kvN nm 4) = kvs at eD look
      refine ⟨(show 0 ≤ sizeLine by decide), fun R nR => ⟨(show 2 ≤ sizeLine by decide), fun T nT => ?_⟩⟩
      have neR : R ≠ T := fun e => by
        rw [← e, upd_same] at nT
        cases nT
      have s2 : Same G1 (upd (upd G1 R (.lst [])) T (.tup [.ref Dd, .ref R])) := (same_new nR).trans (same_new nT)
      have eR : (upd (upd G1 R (.lst [])) T (.tup [.ref Dd, .ref R])) R = some (.lst []) := by rw [upd_ne neR, upd_same]
      have eT : (upd (upd G1 R (.lst [])) T (.tup [.ref Dd, .ref R])) T = some (.tup [.ref Dd, .ref R]) := upd_same
      generalize upd (upd G1 R (.lst [])) T (.tup [.ref Dd, .ref R]) = G2 at s2 eR eT ⊢
      refine ⟨T, _, rfl, .inl (.inl eT), rfl, _, _, rfl, _, _, rfl, rfl, ?_⟩
      have s12 := s1.trans s2
      refine ⟨.ref lw, rfl, lw, rfl, ⟨_, sqlKeep s12 hw⟩, ?_⟩
      refine for_it (walk_list (K := K) (a := lw) (xs := ws.map V.str)) (fun i σ G3 => ∃ y4 y5 acc es, σ = [some (.ref lw), some y, some (.ref Dd), some (.ref R), y4, y5, none, none] ∧ Same G1 G3 ∧ G3 R = some (.lst acc) ∧ EntsAt K G3 acc es ∧ es.length = i ∧ ∀ (j : Nat) (x : Str), j < i → ws[j]? = some x → ∃ e, es[j]? = some e ∧ EntW nm x e)
        ⟨none, none, [], [], rfl, s2, eR, .nil, rfl, fun j x hj => absurd hj (Nat.not_lt_zero j)⟩ (fun i σ G3 _ ⟨_, _, _, _, _, z, _⟩ => sqlKeep (s1.trans z) hw) ?_ ?_
      · rintro i x σ G3 G4 hi ⟨y4, y5, acc, es, rfl, s3, eR3, hE, le, each⟩ ⟨rfl, hx⟩
        obtain ⟨x, hwx, rfl⟩ := map_get hx
        rw [List.length_map] at hi
        have wB := W.each x (List.mem_of_getElem? hwx)
        obtain ⟨a0, c, rest, hc, _, ha0, hd, hr', hl⟩ := word_is wB
        have ra := W.le _ ha0
        have lx : x.length = rest.length + 2 := by
          have : x.cps.toList.length = rest.length + 2 := by rw [hc]; rfl
          exact this
        have cut : cutS x (some 2) none = ⟨rest.toArray⟩ := cut2 hc
        have eD3 := s3 _ _ eD
        refine ⟨.str x, rfl, 2, rfl, x, rfl, Nat.le_trans (show x.length ≤ 1000 by omega) (by decide), ⟨_, rfl, fun L nL => ?_⟩⟩
        rw [cut]
        refine lc_it (walk_str (z := ⟨rest.toArray⟩)) (fun j G5 => Same G4 G5 ∧ G5 L = some (.lst ((rowW nm (rest.take j)).map V.str))) ⟨same_new nL, upd_same⟩ (fun _ _ _ _ => trivial) ?_ ?_
        · rintro j xv G5 G6 hj ⟨s5, eL⟩ ⟨rfl, d, hd', rfl⟩
          have hd' : rest[j]? = some d := by
            have z : (rest.toArray)[j]? = some d := hd'
            rw [List.getElem?_toArray] at z
            exact z
          have tk : rowW nm (rest.take (j + 1)) = rowW nm (rest.take j) ++ (if d = 42 then [] else [nmAt nm d]) := by
            unfold rowW
            rw [List.take_add_one, hd', Option.toList_some, List.filter_append, List.map_append]
            by_cases z : d = 42
            · rw [if_pos z, z]
              rfl
            · rw [if_neg z, List.filter_cons, if_pos (decide_eq_true z)]
              rfl
          refine ⟨rfl, ?_⟩
          refine ⟨.str ⟨#[d]⟩, rfl, rfl, _, rfl, ?_⟩
          by_cases z : d = 42
          · rw [if_pos z, List.append_nil] at tk
            subst z
            rw [tk]
            rw [decide_eq_true (show V.str ⟨#[42]⟩ = V.str "*" from rfl)]
            exact iteF ⟨s5, eL⟩
          · rw [if_neg z] at tk
            have ne : ¬ V.str ⟨#[d]⟩ = V.str "*" := fun e => by
              injection e with e
              have e : (#[d] : Array Nat) = #[42] := congrArg Str.cps e
              exact z (by simpa using e)
            rw [decide_eq_false ne]
            have dr : 97 ≤ d ∧ d < 101 := by
              rcases hr' d (List.mem_of_getElem? hd') with h | h
              · exact absurd h z
              · exact W.le d h
            have lenr : (rowW nm (rest.take j)).length ≤ 5 := by
              unfold rowW
              rw [List.length_map]
              exact Nat.le_trans (List.length_filter_le _ _) (by rw [List.length_take]; omega)
            refine iteT ⟨.ref Dd, rfl, .str ⟨#[d]⟩, rfl, Dd, .str (nmAt nm d), rfl, .inl ⟨kvs, .inr ⟨#[d]⟩, .inl (s5 _ _ eD3), rfl, (look d dr).symm⟩, _, eL, small' (by rw [List.length_map]; omega), putS s5 nL, ?_⟩
            rw [upd_same, tk, List.map_append]
            rfl
        · rintro G5 ⟨s5, eL⟩
          have full : rest.take (rest.toArray).size = rest := List.take_of_length_le (by rw [List.size_toArray]; exact Nat.le_refl _)
          rw [full] at eL
          have eR5 := s5 _ _ eR3
          have eD5 := s5 _ _ eD3
          have at0 : atI x.cps.toList ((0 : Nat) : Int) = some (a0) := atI_nat (by rw [hc]; rfl)
          have a1 : atI x.cps.toList ((1 : Nat) : Int) = some c := atI_nat (by rw [hc]; rfl)
          have lxs : x.length ≤ sizeLine := Nat.le_trans (show x.length ≤ 1000 by omega) (by decide)
          have num : PySem.intText? (⟨#[c]⟩ : Str) = some ((c : Int) - 48) := by
            have : c = 49 ∨ c = 50 ∨ c = 51 ∨ c = 52 ∨ c = 53 ∨ c = 54 ∨ c = 55 ∨ c = 56 ∨ c = 57 := by omega
            rcases this with rfl | rfl | rfl | rfl | rfl | rfl | rfl | rfl | rfl <;> decide +kernel
          have ll : (rowW nm rest).length ≤ 5 := by
            unfold rowW
            rw [List.length_map]
            exact Nat.le_trans (List.length_filter_le _ _) hl
          refine ⟨.ref R, rfl, .inl ⟨rfl, _, .inl (.inl eR5)⟩, ?_⟩
          refine ⟨.ref Dd, rfl, .str x, rfl, x, 0, a0, rfl, rfl, lxs, at0, Dd, .str (nmAt nm a0), rfl, .inl ⟨kvs, .inr ⟨#[a0]⟩, .inl eD5, rfl, (look a0 ra).symm⟩, ?_⟩
          refine ⟨.str x, rfl, x, 1, c, rfl, rfl, lxs, a1, ⟨#[c]⟩, _, rfl, num, (show 1 ≤ 640 by decide), ?_⟩
          refine ⟨.str x, rfl, 42, x, rfl, rfl, ?_⟩
          refine ⟨.ref L, rfl, L, rowW nm rest, rfl, .inl (.inl eL), by omega, fun ys p pm _ np => ?_⟩
          have s6 := s5.trans (same_new (o := .lst (ys.map V.str)) np)
          have ep : (upd G5 p (.lst (ys.map V.str))) p = some (.lst (ys.map V.str)) := upd_same
          have s56 := same_new (o := .lst (ys.map V.str)) np
          generalize upd G5 p (.lst (ys.map V.str)) = G6 at s6 ep s56 ⊢
          refine ⟨p, ys.map V.str, rfl, .inl ⟨.inl (.inl ep), fun t nt => ⟨(show 4 ≤ sizeLine by decide), fun te nte => ?_⟩⟩⟩
          have s7 := same_new (o := .tup (ys.map V.str)) nt
          have et : (upd G6 t (.tup (ys.map V.str))) t = some (.tup (ys.map V.str)) := upd_same
          have s67 := s56.trans s7
          generalize upd G6 t (.tup (ys.map V.str)) = G7 at nte s7 et s67 ⊢
          have s8 := same_new (o := .tup [.str (nmAt nm a0), .int ((c : Int) - 48), .bl (decide (42 ∈ x.cps.toList)), .ref t]) nte
          have ee : (upd G7 te (.tup [.str (nmAt nm a0), .int ((c : Int) - 48), .bl (decide (42 ∈ x.cps.toList)), .ref t])) te = some (.tup [.str (nmAt nm a0), .int ((c : Int) - 48), .bl (decide (42 ∈ x.cps.toList)), .ref t]) := upd_same
          have et8 := s8 _ _ et
          have s48 := s5.trans (s67.trans s8)
          generalize upd G7 te (.tup [.str (nmAt nm a0), .int ((c : Int) - 48), .bl (decide (42 ∈ x.cps.toList)), .ref t]) = G8 at s8 ee et8 s48 ⊢
          have eR8 := s48 _ _ eR3
          have la := hE.len
          refine ⟨R, acc, _, rfl, rfl, eR8, small' (by have := W.l4; omega), ?_⟩
          have t9 : TS G8 (upd G8 R (.lst (acc ++ [.ref te]))) := ts_lst eR8
          refine ⟨some (.str x), some (.ref L), acc ++ [.ref te], es ++ [⟨nmAt nm (a0), (c : Int) - 48, decide (42 ∈ x.cps.toList), ys⟩], rfl, putS (s3.trans s48) nR, upd_same, ((hE.same s48).ts t9).append (.cons ⟨te, t, rfl, .inl (.inl (t9.1 _ _ ee)), .inl (.inl (t9.1 _ _ et8))⟩ .nil), by rw [List.length_append, le]; rfl, fun j x' hj hx' => ?_⟩
          rcases Nat.lt_succ_iff_lt_or_eq.mp hj with lt | rfl
          · obtain ⟨e, he, E⟩ := each j x' lt hx'
            exact ⟨e, (List.getElem?_append_left (by omega)).trans he, E⟩
          · obtain rfl : x = x' := Option.some.inj (hwx.symm.trans hx')
            refine ⟨_, by rw [List.getElem?_append_right (by omega), le, Nat.sub_self]; rfl, ⟨a0, c, rest, hc, rfl, rfl, rfl, pm⟩⟩
      · rintro σ G3 ⟨y4, y5, acc, es, rfl, s3, eR3, hE, le, each⟩
        rw [List.length_map] at le each
        obtain ⟨cs, c1, c2, hcs⟩ := ents_zip hE
        have lcs : cs.length ≤ 4 := by
          have : cs.length = es.length := by rw [← c2, List.length_map]
          have := W.l4
          omega
        refine ⟨.ref R, rfl, R, cs.map fun c => (c.1, dEnt c.2), rfl, .inl (.inl ?_), fun c hc => ?_, ?_, ?_, fun l qs nl pm pw => ?_⟩
        · rw [List.map_map]
          exact (show cs.map (·.1) = acc from c1) ▸ eR3
        · obtain ⟨c0, hc0, rfl⟩ := List.mem_map.mp hc
          exact ⟨(hcs c0 hc0).dp, ent_deep c0.2⟩
        · have e : (cs.map fun c => (c.1, dEnt c.2)).map (·.2) = cs.map fun c => dEnt c.2 := by rw [List.map_map]; rfl
          rw [e]
          intro d hd d' hd'
          obtain ⟨_, _, rfl⟩ := List.mem_map.mp hd
          obtain ⟨_, _, rfl⟩ := List.mem_map.mp hd'
          exact ent_alike _ _
        · have e : (cs.map fun c => (c.1, dEnt c.2)).map (·.2) = cs.map fun c => dEnt c.2 := by rw [List.map_map]; rfl
          rw [e]
          refine .inl fun d hd => ?_
          obtain ⟨_, _, rfl⟩ := List.mem_map.mp hd
          exact ⟨_, _, rfl⟩
        · obtain ⟨ds, pd, rfl⟩ := lift_perm qs cs pm
          have eds : (ds.map fun c : V × Ent => (c.1, dEnt c.2)).map (·.1) = ds.map (·.1) := by rw [List.map_map]; rfl
          rw [eds]
          have s4 := same_new (o := .lst (ds.map (·.1))) nl
          have el : (upd G3 l (.lst (ds.map (·.1)))) l = some (.lst (ds.map (·.1))) := upd_same
          generalize upd G3 l (.lst (ds.map (·.1))) = G4 at s4 el ⊢
          refine ⟨l, _, rfl, .inl ⟨.inl (.inl el), fun t nt => ?_⟩⟩
          have s5 := same_new (o := .tup (ds.map (·.1))) nt
          have et : (upd G4 t (.tup (ds.map (·.1)))) t = some (.tup (ds.map (·.1))) := upd_same
          have s45 := s4.trans s5
          generalize upd G4 t (.tup (ds.map (·.1))) = G5 at s5 et s45 ⊢
          have eD5 := s45 _ _ (s3 _ _ eD)
          refine ⟨.ref Dd, rfl, Dd, .str (nmAt nm 97), rfl, .inl ⟨kvs, .inr ⟨#[97]⟩, .inl eD5, rfl, (look 97 (by omega)).symm⟩, (show 2 ≤ sizeLine by decide), fun b nb => ?_⟩
          have s6 := same_new (o := .tup [.ref t, .str (nmAt nm 97)]) nb
          have atd : ∀ c ∈ ds, EntAt K G3 c.1 c.2 := fun c hc => hcs c (pd.mem_iff.mp hc)
          have nmd : NamedG ⟨ds.map (·.2), nmAt nm 97⟩ ws nm := ⟨rfl, es, by rw [← c2]; exact pd.map _, le, fun j x hx => each j x (List.getElem?_eq_some_iff.mp hx).1 hx⟩
          refine q (.ref b) ⟨ds.map (·.2), nmAt nm 97⟩ _ (s1.trans (s3.trans (s45.trans s6))) ⟨b, t, ds.map (·.1), rfl, .inl (.inl upd_same), .inl (.inl (s6 _ _ et)), ((ents_of atd).same s45).same s6⟩ nmd (srt_of pw (named_good W N nmd).nd)
end
end Kn


namespace Kn
open PySem PySem.Spec PyProof.Rows L2
abbrev nDn : List Str := ["_law_feed_here", "_law_size", "_law_found", "_law_j", "_law_cost", "_law_letters", "_law_star", "_law_sign"]
theorem scDn : FnScope nDn ["_law_feed_here"] (defScope (topS 49)) := ⟨rfl, rfl, rfl, by decide +kernel, rfl, by decide +kernel, by decide +kernel⟩
def wordJ (n j : Nat) (x : Str) : Bool := match x.cps.toList with
  | a :: c :: rest => decide (a = 97 + j) && decide (49 ≤ c ∧ c ≤ 57) && (rest.all fun d => decide (d = 42 ∨ (97 ≤ d ∧ d < 97 + n))) && decide (rest.length ≤ 5)
  | _ => false
theorem wordJ_is {n j : Nat} {x : Str} (h : wordJ n j x = true) : ∃ c rest, x.cps.toList = (97 + j) :: c :: rest ∧ headC x = 97 + j ∧ (49 ≤ c ∧ c ≤ 57) ∧ (∀ d ∈ rest, d = 42 ∨ (97 ≤ d ∧ d < 97 + n)) ∧ rest.length ≤ 5 := by
  unfold wordJ at h
  match hx : x.cps.toList, h with
  | a :: c :: rest, h =>
    rw [Bool.and_eq_true, Bool.and_eq_true, Bool.and_eq_true] at h
    obtain rfl := of_decide_eq_true h.1.1.1
    exact ⟨c, rest, rfl, by unfold headC; rw [hx]; rfl, of_decide_eq_true h.1.1.2, fun d hd => of_decide_eq_true (List.all_eq_true.mp h.1.2 d hd), of_decide_eq_true h.2⟩
theorem drawn_ok {n : Nat} {ws : List Str} (lw : ws.length = n) (n1 : 1 ≤ n) (n4 : n ≤ 4) (each : ∀ (j : Nat) (x : Str), ws[j]? = some x → wordJ n j x = true) : WsOk ws := by
  have heads : ws.map headC = (List.range n).map fun j => 97 + j := by
    refine List.ext_getElem? fun j => ?_
    rw [List.getElem?_map, List.getElem?_map]
    rcases Nat.lt_or_ge j n with h | h
    · have hx : ws[j]? = some (ws[j]'(by omega)) := List.getElem?_eq_getElem (by omega)
      obtain ⟨_, _, _, hh, _⟩ := wordJ_is (each j _ hx)
      rw [hx, List.getElem?_range h]
      exact congrArg some hh
    · rw [List.getElem?_eq_none_iff.mpr (by omega), List.getElem?_eq_none_iff.mpr (by rw [List.length_range]; exact h)]
      rfl
  have mem : ∀ d, 97 ≤ d ∧ d < 97 + n → d ∈ ws.map headC := fun d hd => by
    rw [heads]
    exact List.mem_map.mpr ⟨d - 97, List.mem_range.mpr (by omega), by omega⟩
  refine ⟨by omega, by omega, ?_, fun d hd => ?_, mem 97 (by omega), fun x hx => ?_⟩
  · rw [heads]
    have : n = 1 ∨ n = 2 ∨ n = 3 ∨ n = 4 := by omega
    rcases this with rfl | rfl | rfl | rfl <;> decide
  · rw [heads] at hd
    obtain ⟨j, hj, rfl⟩ := List.mem_map.mp hd
    have := List.mem_range.mp hj
    omega
  · obtain ⟨j, hj, ej⟩ := List.mem_iff_getElem.mp hx
    obtain ⟨c, rest, hc, hh, h1, h2, h3⟩ := wordJ_is (each j x (by rw [List.getElem?_eq_getElem hj, ej]))
    unfold wordB
    rw [hc]
    show (decide (97 + j ∈ ws.map headC) && decide (49 ≤ c ∧ c ≤ 57) && (rest.all fun d => decide (d = 42 ∨ d ∈ ws.map headC)) && decide (rest.length ≤ 5)) = true
    rw [decide_eq_true (mem _ (by omega)), decide_eq_true h1, decide_eq_true h3, List.all_eq_true.mpr fun d hd => decide_eq_true ((h2 d hd).imp id (mem d))]
    rfl
theorem join_one : ∀ ds : List Nat, Txt.join "" (ds.map fun d => (⟨#[d]⟩ : Str)) = ⟨ds.toArray⟩ := fun ds => by
  rw [TL.join_eq]
  have key : ∀ ds : List Nat, (Str.join "" (ds.map fun d => (⟨#[d]⟩ : Str))).cps.toList = ds := by
    intro ds
    induction ds with
    | nil => rfl
    | cons d r ih =>
      cases r with
      | nil => rfl
      | cons e r =>
        show (((⟨#[d]⟩ : Str) ++ "" ++ Str.join "" ((e :: r).map fun d => (⟨#[d]⟩ : Str)))).cps.toList = _
        have z : ∀ a b : Str, (a ++ b).cps.toList = a.cps.toList ++ b.cps.toList := fun a b => by
          show (a.cps ++ b.cps).toList = _
          rw [Array.toList_append]
        rw [z, z, ih]
        rfl
  have z := key ds
  generalize Str.join "" (ds.map fun d => (⟨#[d]⟩ : Str)) = x at z
  obtain ⟨⟨l⟩⟩ := x
  have z : l = ds := z
  rw [z]
theorem app_cps (a b : Str) : (a ++ b).cps.toList = a.cps.toList ++ b.cps.toList := by
  show (a.cps ++ b.cps).toList = _
  rw [Array.toList_append]
theorem sum_one : ∀ ds : List Nat, ((ds.map fun d => (⟨#[d]⟩ : Str)).map (·.length)).sum = ds.length
  | [] => rfl
  | d :: r => by
    show 1 + ((r.map fun d => (⟨#[d]⟩ : Str)).map (·.length)).sum = r.length + 1
    rw [sum_one r]
    omega
theorem keep_put {f p : Addr} {H G : Hp} {o : HO} (k : Keep f H G) (n : H p = none) : Keep f H (upd G p o) := fun b x nb h => by
  rw [upd_ne (ne_of_none h n)]
  exact k b x nb h
theorem log_small {m : Int} (h : m = 1 ∨ m = 2 ∨ m = 3) : m.natAbs.log2 < 1920 := by
  rcases h with rfl | rfl | rfl <;> decide
theorem word_made {n i : Nat} {m : Int} {st : Str} {ds : List Nat} (hi : i < n + 1) (hm : m = 1 ∨ m = 2 ∨ m = 3) (hs : st = "*" ∨ st = "") (ld : ds.length ≤ 4) (hd : ∀ d ∈ ds, 97 ≤ d ∧ d < 97 + (n + 1)) :
    wordJ (n + 1) i ((((⟨#[97 + i]⟩ : Str) ++ Str.ofString (toString m)) ++ st) ++ ⟨ds.toArray⟩) = true := by
  have e : ((((⟨#[97 + i]⟩ : Str) ++ Str.ofString (toString m)) ++ st) ++ ⟨ds.toArray⟩).cps.toList = (97 + i) :: (48 + m.toNat) :: ((if st = "*" then [42] else []) ++ ds) := by
    rw [app_cps, app_cps, app_cps]
    rcases hm with rfl | rfl | rfl <;> rcases hs with rfl | rfl <;> rfl
  unfold wordJ
  rw [e]
  have c1 : 49 ≤ 48 + m.toNat ∧ 48 + m.toNat ≤ 57 := by omega
  have c2 : (((if st = "*" then [42] else []) ++ ds).all fun d => decide (d = 42 ∨ (97 ≤ d ∧ d < 97 + (n + 1)))) = true := by
    rw [List.all_append, Bool.and_eq_true]
    refine ⟨?_, List.all_eq_true.mpr fun d h => decide_eq_true (.inr (hd d h))⟩
    split <;> rfl
  have c3 : ((if st = "*" then [42] else []) ++ ds).length ≤ 5 := by
    rw [List.length_append]
    split
    · show 1 + ds.length ≤ 5
      omega
    · show 0 + ds.length ≤ 5
      omega
  show (decide (97 + i = 97 + i) && decide (49 ≤ 48 + m.toNat ∧ 48 + m.toNat ≤ 57) && _ && _) = true
  rw [decide_eq_true rfl, decide_eq_true c1, c2, decide_eq_true c3]
  rfl
def spDn : Sp := fun vs H Q _ => ∃ (f a : Addr) (ns : List Int) (c : Nat), vs = [.ref f] ∧ Fd f a ns H c ∧ c + 50 < 100000 ∧
  ∀ (l : Addr) (ws : List Str) (H' : Hp), Keep f H H' → Fd f a ns H' (c + 40) → H l = none → l ≠ f → H' l = some (.lst (ws.map V.str)) → WsOk ws → Q (.ref l) H'
section
variable {P : Program} {w : World} {K : PySem.W.Frag} {mg : Str → Option Value} {base : Heap}
theorem ok_dn {g gD : Addr} {fd fdD : FuncData} (F : Fun K "_law_drawn" "_law_drawn" (topS 49) g fd) (D : Def K mg "_law_draw" 41 ["_law_feed_here", "_law_wide"] gD fdD) (GD : FnOk P w K mg base CX0 1 gD fdD ["_law_feed_here", "_law_wide"] spDraw) (mz : mg "str" = none) (mr : mg "range" = none) :
    FnOk P w K mg base CX0 2 g fd ["_law_feed_here"] spDn := by
  refine F.ok scDn (fun vs H Q E h => ?_) (fun cdv A outer s H vs Q E hr h => ?_)
  · obtain ⟨f, a, ns, c, rfl, _⟩ := h
    rfl
  · obtain ⟨f, a, ns, c, rfl, fd0, hc, q⟩ := h
    refine ⟨_, (pss_cons (ps_par (i := 1) (j := 2) (by rfl) scDn.nd rfl rfl (by decide) rfl rfl (pa_cons (pe_op op_add pe_int (pe_call GD hr (by rfl) D.m D.F.kp D.b .nil pass0 (pa_cons (pv 0) (pa_cons pe_int pa_nil)))) (pa_cons (pe_lst pa_nil) pa_nil)) (by rfl))
      (pss_cons (ps_for PassesOwn.never rfl (pi_range1 (by rfl) mr (pa_cons (pv 1) pa_nil)) (pg_name (i := 3) scDn.nd rfl (.inl rfl)) (pss_cons (ps_set (i := 4) scDn.nd rfl (.inl rfl) (pe_ix ix_list (pe_lst (pa_cons pe_int (pa_cons pe_int (pa_cons pe_int (pa_cons pe_int pa_nil))))) (pe_call GD hr (by rfl) D.m D.F.kp D.b .nil pass0 (pa_cons (pv 0) (pa_cons pe_int pa_nil))) (fun _ _ => rfl)))
      (pss_cons (ps_set (i := 5) scDn.nd rfl (.inl rfl) (pe_join pe_str (pe_lc (own := [("_law_sign", 7)]) (g := gName 7) (by rfl) scDn.nd (pi_str (pe_slice sl_str pe_str po_none (po_some (pv 1)))) (blkOk_by (own := [("_law_sign", 7)]) (N := nDn) (sc := defScope (topS 49)) (by decide +kernel)) (fun _ _ _ _ _ => pg_name (i := 7) scDn.nd rfl (Or.inl rfl)) (fun _ _ _ _ _ => (pts_one (pt_cmpR op_lt (pe_call GD hr (by rfl) D.m D.F.kp D.b .nil pass0 (pa_cons (pv 0) (pa_cons pe_int pa_nil))) pe_int (nomark _)))) (fun _ _ _ _ _ => (pv 7)))))
      (pss_cons (ps_set (i := 6) scDn.nd rfl (.inl rfl) (pe_ifExp (PW.pt (pw_and (pt_cmpR op_eq (pe_call GD hr (by rfl) D.m D.F.kp D.b .nil pass0 (pa_cons (pv 0) (pa_cons pe_int pa_nil))) pe_int (nomark _)) (pw_and1 (pt_cmpR op_gt (pv 3) pe_int (nomark _))))) pe_str pe_str))
      (pss_one (ps_expr (pe_bm PySem.F.plainAttrs_list PySem.F.slot_list_append PySem.F.type_list_append mt_append (pv 2) (pa_cons (pe_op op_add_str (pe_op op_add_str (pe_op op_add_str (pe_ix ix_str pe_str (pv 3) (fun _ _ => rfl)) (pe_callTy call_str_int (by rfl) mz (by decide +kernel) (pa_cons (pv 4) pa_nil))) (pv 6)) (pv 5)) pa_nil))))))))
      (pss_one (ps_ret (pv 2))))), ?_⟩
    refine ⟨.ref f, rfl, f, a, ns, c, 4, rfl, by omega, by omega, fd0, by omega, fun z H1 z0 z4 k1 fd1 => ?_⟩
    obtain ⟨n, rfl⟩ := Int.eq_ofNat_of_zero_le z0
    have n4 : n < 4 := by omega
    refine ⟨1, (n : Nat), rfl, rfl, (show 0 ≤ sizeLine by decide), fun L nL => ⟨.int ((n + 1 : Nat) : Int), .ref L, by show [V.int (1 + (n : Nat)), V.ref L] = _; rw [show (1 : Int) + (n : Nat) = ((n + 1 : Nat) : Int) by omega], ?_⟩⟩
    obtain ⟨n1, n2⟩ := fd1.free nL
    have fd2 : Fd f a ns (upd H1 L (.lst [])) (c + 1) := fd1.own n1 n2
    have k2 : Keep f H (upd H1 L (.lst [])) := k1.trans (keep_same (same_new nL))
    have eL : (upd H1 L (.lst [])) L = some (.lst []) := upd_same
    have nL0 := ne_free fd1 k1 nL
    generalize upd H1 L (.lst []) = H2 at fd2 k2 eL ⊢
    have neLf : L ≠ f := n1.symm
    refine ⟨.int ((n + 1 : Nat) : Int), rfl, ((n + 1 : Nat) : Int), rfl, by omega, by omega, ?_⟩
    refine for_it walk_range (fun i σ G => ∃ (cc : Nat) (y3 y4 y5 y6 : Option V) (ws : List Str), σ = [some (.ref f), some (.int ((n + 1 : Nat) : Int)), some (.ref L), y3, y4, y5, y6, none] ∧ cc ≤ c + 1 + 7 * i ∧ Fd f a ns G cc ∧ Keep f H G ∧ G L = some (.lst (ws.map V.str)) ∧ ws.length = i ∧ ∀ (j : Nat) (x : Str), ws[j]? = some x → wordJ (n + 1) j x = true)
      ⟨c + 1, none, none, none, none, [], rfl, by omega, fd2, k2, eL, rfl, fun j x h => by cases h⟩ (fun _ _ _ _ _ => trivial) ?_ ?_
    · rintro i x σ G G' hi ⟨cc, y3, y4, y5, y6, ws, rfl, lc, fd3, k3, eL3, lw, each⟩ ⟨rfl, rfl⟩
      have hi : i < n + 1 := by omega
      show gName 3 (V.int (0 + (i : Nat))) _ _ _
      rw [Int.zero_add]
      refine ⟨(show 4 ≤ sizeLine by decide), fun B nB => ?_⟩
      obtain ⟨b1, b2⟩ := fd3.free nB
      have neLB : L ≠ B := ne_of_none eL3 nB
      refine ⟨.ref f, rfl, f, a, ns, cc, 4, rfl, by omega, by omega, fd3.own b1 b2, by omega, fun z2 H3 zz0 zz4 k4 fd4 => ?_⟩
      have eB : H3 B = some (.lst [.int 1, .int 1, .int 2, .int 3]) := k4 _ _ b1.symm upd_same
      have eL4 : H3 L = some (.lst (ws.map V.str)) := k4 _ _ neLf ((upd_ne neLB).trans eL3)
      have k5 : Keep f H H3 := (k3.trans (keep_same (same_new nB))).trans k4
      obtain ⟨m, hm, m3⟩ : ∃ m : Int, atI [V.int 1, .int 1, .int 2, .int 3] z2 = some (.int m) ∧ (m = 1 ∨ m = 2 ∨ m = 3) := by
        have : z2 = 0 ∨ z2 = 1 ∨ z2 = 2 ∨ z2 = 3 := by omega
        rcases this with rfl | rfl | rfl | rfl
        · exact ⟨1, rfl, .inl rfl⟩
        · exact ⟨1, rfl, .inl rfl⟩
        · exact ⟨2, rfl, .inr (.inl rfl)⟩
        · exact ⟨3, rfl, .inr (.inr rfl)⟩
      refine ⟨B, _, z2, .int m, rfl, rfl, .inl (.inl eB), hm, ?_⟩
      have cut : cutS "abcd" none (some ((n + 1 : Nat) : Int)) = ⟨((List.range (n + 1)).map fun i => 97 + i).toArray⟩ := by
        have : n = 0 ∨ n = 1 ∨ n = 2 ∨ n = 3 := by omega
        rcases this with rfl | rfl | rfl | rfl <;> rfl
      have at4 : atI ("abcd" : Str).cps.toList ((i : Nat) : Int) = some (97 + i) := by
        have : i = 0 ∨ i = 1 ∨ i = 2 ∨ i = 3 := by omega
        rcases this with rfl | rfl | rfl | rfl <;> rfl
      refine ⟨⟨_, rfl⟩, .int ((n + 1 : Nat) : Int), rfl, ((n + 1 : Nat) : Int), rfl, "abcd", rfl, (show 4 ≤ sizeLine by decide), ⟨_, rfl, fun L2 nL2 => ?_⟩⟩
      rw [cut]
      obtain ⟨g1, g2⟩ := fd4.free nL2
      have neLL : L ≠ L2 := ne_of_none eL4 nL2
      have nL20 : H L2 = none := ne_free fd4 k5 nL2
      refine lc_it (walk_str (z := ⟨((List.range (n + 1)).map fun i => 97 + i).toArray⟩)) (fun j G5 => ∃ (c2 : Nat) (ds : List Nat), c2 ≤ cc + 1 + j ∧ Keep f H G5 ∧ Fd f a ns G5 c2 ∧ G5 L2 = some (.lst ((ds.map fun d => (⟨#[d]⟩ : Str)).map V.str)) ∧ G5 L = some (.lst (ws.map V.str)) ∧ ds.length ≤ j ∧ ∀ d ∈ ds, 97 ≤ d ∧ d < 97 + (n + 1))
        ⟨cc + 1, [], by omega, k5.trans (keep_same (same_new nL2)), fd4.own g1 g2, upd_same, (upd_ne neLL).trans eL4, Nat.le_refl _, fun d h => by cases h⟩ (fun _ _ _ _ => trivial) ?_ ?_
      · rintro j xv G5 G6 hj ⟨c2, ds, lc2, k6, fd5, eL5, eLL, ld, hds⟩ ⟨rfl, d, hd', rfl⟩
        have jn : j < n + 1 := by
          have z : ((List.range (n + 1)).map fun i => 97 + i).toArray.size = n + 1 := by simp
          have hj : j < ((List.range (n + 1)).map fun i => 97 + i).toArray.size := hj
          omega
        have dr : 97 ≤ d ∧ d < 97 + (n + 1) := by
          have z : (((List.range (n + 1)).map fun i => 97 + i).toArray)[j]? = some d := hd'
          rw [List.getElem?_toArray] at z
          obtain ⟨y, hy, rfl⟩ := map_get z
          have := (List.mem_range.mp (List.mem_of_getElem? hy))
          omega
        refine ⟨rfl, ?_⟩
        refine ⟨.ref f, rfl, f, a, ns, c2, 5, rfl, by omega, by omega, fd5, by omega, fun z5 G7 y0 y5 k7 fd7 => ⟨z5, 2, rfl, rfl, _, rfl, ?_⟩⟩
        have ne2f : L2 ≠ f := g1.symm
        have eL7 := k7 _ _ ne2f eL5
        have eLL7 := k7 _ _ neLf eLL
        cases zt : decide (z5 < 2)
        · exact iteF ⟨c2 + 1, ds, by omega, k6.trans k7, fd7, eL7, eLL7, by omega, hds⟩
        · refine iteT ⟨.str ⟨#[d]⟩, rfl, _, eL7, small' (by rw [List.length_map, List.length_map]; omega), c2 + 1, ds ++ [d], by omega, keep_put (k6.trans k7) nL20, ?_, ?_, (upd_ne neLL).trans eLL7, by rw [List.length_append]; show ds.length + 1 ≤ _; omega, fun d' h => ?_⟩
          · exact fd7.own g1 g2
          · rw [upd_same, List.map_append, List.map_append]
            rfl
          · rcases List.mem_append.mp h with h | h
            · exact hds d' h
            · rw [List.mem_singleton.mp h]
              exact dr
      · rintro G5 ⟨c2, ds, lc2, k6, fd5, eL5, eLL, ld, hds⟩
        have size : ((List.range (n + 1)).map fun i => 97 + i).toArray.size = n + 1 := by simp
        have ld : ds.length ≤ n + 1 := by
          have ld : ds.length ≤ ((List.range (n + 1)).map fun i => 97 + i).toArray.size := ld
          omega
        have lc2 : c2 ≤ cc + 1 + (n + 1) := by
          have lc2 : c2 ≤ cc + 1 + ((List.range (n + 1)).map fun i => 97 + i).toArray.size := lc2
          omega
        refine ⟨"", L2, ds.map fun d => (⟨#[d]⟩ : Str), rfl, rfl, .inl (.inl (.inl eL5)), ?_, ?_⟩
        · rw [sum_one]
          show ds.length + (ds.map fun d => (⟨#[d]⟩ : Str)).length * 0 ≤ _
          omega
        rw [join_one]
        refine ⟨.ref f, rfl, f, a, ns, c2, 6, rfl, by omega, by omega, fd5, by omega, fun z6 G7 y0 y6 k7 fd7 => ?_⟩
        have eLL7 := k7 _ _ neLf eLL
        have k67 := k6.trans k7
        have star : ∀ st : Str, st = "*" ∨ st = "" → st.length ≤ 1 := fun st h => by
          rcases h with rfl | rfl <;> decide
        have lm : (Str.ofString (toString m)).length = 1 := by
          rcases m3 with rfl | rfl | rfl <;> rfl
        have last : ∀ (st : Str), st = "*" ∨ st = "" → ∀ (j : Nat) (x : Str), (ws ++ [(((⟨#[97 + i]⟩ : Str) ++ Str.ofString (toString m)) ++ st) ++ ⟨ds.toArray⟩])[j]? = some x → wordJ (n + 1) j x = true := fun st hs j x hx => by
          rcases Nat.lt_or_ge j ws.length with h | h
          · rw [List.getElem?_append_left h] at hx
            exact each j x hx
          · rw [List.getElem?_append_right h] at hx
            have j0 : j - ws.length = 0 := by
              have := (List.getElem?_eq_some_iff.mp hx).1
              rw [List.length_singleton] at this
              omega
            rw [j0] at hx
            obtain rfl : (((⟨#[97 + i]⟩ : Str) ++ Str.ofString (toString m)) ++ st) ++ ⟨ds.toArray⟩ = x := Option.some.inj hx
            obtain rfl : j = i := by omega
            exact word_made (by omega) m3 hs (by omega) hds
        have lds : (⟨ds.toArray⟩ : Str).length = ds.length := by
          show ds.toArray.size = _
          rw [List.size_toArray]
        have l1 : (⟨#[97 + i]⟩ : Str).length = 1 := rfl
        have b2 : 1000 ≤ sizeLine := by decide
        have fin : ∀ (st : Str), st = "*" ∨ st = "" → ∀ G, G = upd G7 L (.lst (ws.map V.str ++ [V.str ((((⟨#[97 + i]⟩ : Str) ++ Str.ofString (toString m)) ++ st) ++ ⟨ds.toArray⟩)])) →
            ∃ (cc : Nat) (y3 y4 y5 y6 : Option V) (ws : List Str), [some (V.ref f), some (.int ((n + 1 : Nat) : Int)), some (.ref L), some (.int (i : Nat)), some (.int m), some (.str ⟨ds.toArray⟩), some (.str st), none] = [some (.ref f), some (.int ((n + 1 : Nat) : Int)), some (.ref L), y3, y4, y5, y6, none] ∧ cc ≤ c + 1 + 7 * (i + 1) ∧ Fd f a ns G cc ∧ Keep f H G ∧ G L = some (.lst (ws.map V.str)) ∧ ws.length = i + 1 ∧ ∀ (j : Nat) (x : Str), ws[j]? = some x → wordJ (n + 1) j x = true := by
          rintro st hs _ rfl
          refine ⟨c2 + 1, _, _, _, _, ws ++ [(((⟨#[97 + i]⟩ : Str) ++ Str.ofString (toString m)) ++ st) ++ ⟨ds.toArray⟩], rfl, by omega, fd7.own n1 n2, keep_put k67 nL0, ?_, by rw [List.length_append, lw]; rfl, last st hs⟩
          rw [upd_same, List.map_append]
          rfl
        refine ⟨rfl, _, rfl, ?_⟩
        cases zz : decide (V.int z6 = V.int 0)
        · have hs : ("" : Str) = "*" ∨ ("" : Str) = "" := .inr rfl
          have := star _ hs
          refine iteF ⟨.ref L, rfl, .inl ⟨rfl, _, .inl (.inl eLL7)⟩, .int (i : Nat), rfl, "abcd", (i : Nat), 97 + i, rfl, rfl, (show 4 ≤ sizeLine by decide), at4, .int m, rfl, m, rfl, log_small m3, _, _, rfl, rfl, ?_, .str "", rfl, _, _, rfl, rfl, ?_, .str ⟨ds.toArray⟩, rfl, _, _, rfl, rfl, ?_, L, _, _, rfl, rfl, eLL7, small' (by rw [List.length_map]; omega), fin _ hs _ rfl⟩
          · rw [l1, lm]; omega
          · rw [len_app, l1, lm]; omega
          · rw [len_app, len_app, l1, lm, lds]; omega
        · refine iteT ⟨.int (i : Nat), rfl, (i : Nat), 0, rfl, rfl, _, rfl, ?_⟩
          cases zi : decide ((0 : Int) < (i : Nat))
          · have hs : ("" : Str) = "*" ∨ ("" : Str) = "" := .inr rfl
            have := star _ hs
            refine iteF ⟨.ref L, rfl, .inl ⟨rfl, _, .inl (.inl eLL7)⟩, .int (i : Nat), rfl, "abcd", (i : Nat), 97 + i, rfl, rfl, (show 4 ≤ sizeLine by decide), at4, .int m, rfl, m, rfl, log_small m3, _, _, rfl, rfl, ?_, .str "", rfl, _, _, rfl, rfl, ?_, .str ⟨ds.toArray⟩, rfl, _, _, rfl, rfl, ?_, L, _, _, rfl, rfl, eLL7, small' (by rw [List.length_map]; omega), fin _ hs _ rfl⟩
            · rw [l1, lm]; omega
            · rw [len_app, l1, lm]; omega
            · rw [len_app, len_app, l1, lm, lds]; omega
          · have hs : ("*" : Str) = "*" ∨ ("*" : Str) = "" := .inl rfl
            have := star _ hs
            refine iteT ⟨.ref L, rfl, .inl ⟨rfl, _, .inl (.inl eLL7)⟩, .int (i : Nat), rfl, "abcd", (i : Nat), 97 + i, rfl, rfl, (show 4 ≤ sizeLine by decide), at4, .int m, rfl, m, rfl, log_small m3, _, _, rfl, rfl, ?_, .str "*", rfl, _, _, rfl, rfl, ?_, .str ⟨ds.toArray⟩, rfl, _, _, rfl, rfl, ?_, L, _, _, rfl, rfl, eLL7, small' (by rw [List.length_map]; omega), fin _ hs _ rfl⟩
            · rw [l1, lm]; omega
            · rw [len_app, l1, lm]; omega
            · rw [len_app, len_app, l1, lm, lds]; omega
    · rintro σ G ⟨cc, y3, y4, y5, y6, ws, rfl, lc, fd3, k3, eL3, lw, each⟩
      have lw : ws.length = n + 1 := by omega
      exact ⟨.ref L, rfl, q L ws G k3 (fd3.more (by omega)) nL0 neLf eL3 (drawn_ok lw (by omega) (by omega) each)⟩
end
end Kn


namespace Kn
open PySem PySem.Spec PyProof.Rows L2
abbrev nCa : List Str := ["_law_feed_here", "_law_most", "_law_pools", "_law_names", "_law_told", "_law_power", "_law_words", "_law_j", "_law_sign", "_law_book", "_law_lap", "_law_own"]
theorem scCa : FnScope nCa ["_law_feed_here", "_law_most"] (defScope (topS 50)) := ⟨rfl, rfl, rfl, by decide +kernel, rfl, by decide +kernel, by decide +kernel⟩
theorem seq_mid {t u : L2.TS} {D : Ends} {σ : L2.St} {H : Hp} (S : L2.St → Hp → Prop) (rest : ∀ σ' H', S σ' H' → u D σ' H') (body : ∀ R : L2.St → Hp → Prop, (∀ σ' H', S σ' H' → R σ' H') → t { D with nx := R } σ H) : tSeq t u D σ H := body _ rest
def wsB (ws : List Str) : Bool := decide (1 ≤ ws.length) && decide (ws.length ≤ 4) && decide (ws.map headC).Nodup && ((ws.map headC).all fun d => decide (97 ≤ d ∧ d < 101)) && decide (97 ∈ ws.map headC) && ws.all fun x => wordB (ws.map headC) x && decide (x.length ≤ 6)
theorem wsB_ok {ws : List Str} (h : wsB ws = true) : WsOk ws ∧ ∀ x ∈ ws, x.length ≤ 6 := by
  unfold wsB at h
  rw [Bool.and_eq_true, Bool.and_eq_true, Bool.and_eq_true, Bool.and_eq_true, Bool.and_eq_true, List.all_eq_true, List.all_eq_true] at h
  obtain ⟨⟨⟨⟨⟨h1, h2⟩, h3⟩, h4⟩, h5⟩, h6⟩ := h
  have at1 : ∀ x ∈ ws, wordB (ws.map headC) x = true ∧ x.length ≤ 6 := fun x hx => by
    have z := h6 x hx
    rw [Bool.and_eq_true] at z
    exact ⟨z.1, of_decide_eq_true z.2⟩
  exact ⟨⟨of_decide_eq_true h1, of_decide_eq_true h2, of_decide_eq_true h3, fun d hd => of_decide_eq_true (h4 d hd), of_decide_eq_true h5, fun x hx => (at1 x hx).1⟩, fun x hx => (at1 x hx).2⟩
def scWords : List (List Str × Int) := [(["a1bd", "b1c", "c1", "d1b"], 2), (["a1bd", "b1c", "c1", "d1b"], 3), (["a1bd", "b1c", "c1", "d1bd"], 3), (["a1a"], 2), (["a1a"], 3), (["a1b", "b1a"], 3), (["a1bd", "b1c", "c1", "d2b"], 3), (["a1b", "b1*c", "c1"], 3), (["a1c", "c1c"], 3), (["a2a"], 3), (["a1bd", "b2c", "c1", "d1b"], 3), (["a1bd", "b2c", "c1", "d1ab"], 3), (["a3b", "b1"], 2), (["a1b", "b1bc", "c2b"], 4), (["a1"], 1), (["a1b", "b1", "c1*"], 2), (["a1bc", "b2a", "c1b"], 4), (["a1ab", "b1ab"], 3), (["a2bc", "b1*a", "c1a"], 5)]
theorem sc_words : ∀ s ∈ scWords, wsB s.1 = true ∧ (0 ≤ s.2 ∧ s.2 ≤ 6) ∧ (Txt.join " " s.1).length ≤ 100 ∧ s.1 ≠ [] ∧ ∀ p ∈ s.1, 32 ∉ p.cps.toList := by decide +kernel
theorem sc_told : scenesL = scWords.map fun s => (Txt.join " " s.1, s.2) := by decide +kernel
theorem scenes_ok : ∀ s ∈ scenesL, wsB (Txt.split s.1 " ") = true ∧ (0 ≤ s.2 ∧ s.2 ≤ 6) ∧ s.1.length ≤ 100 := fun s hs => by
  rw [sc_told] at hs
  obtain ⟨w, hw, rfl⟩ := List.mem_map.mp hs
  obtain ⟨a, b, c, ne, no⟩ := sc_words w hw
  have e : Txt.split (Txt.join " " w.1) " " = w.1 := TL.split_join (y := " ") (s := 32) (S := []) rfl (by decide +kernel) ne no
  exact ⟨by rw [e]; exact a, b, c⟩
def poolsL : List (List Str) := [["a", "b", "c", "d"], ["d", "c", "b", "a"], ["zz", "y", "zzzzzzzz", "x"], ["led", "open", "pair", "plan"], ["m", "ma", "l", "mab"]]
theorem pools_ok : ∀ nm ∈ poolsL, nm.length = 4 ∧ nm.Nodup ∧ (∀ x ∈ nm, nameB (.str x) = true) ∧ ("nobody" : Str) ∉ nm := by decide +kernel
theorem pool_nm {nm : List Str} (h : nm ∈ poolsL) : NmOk nm := let z := pools_ok nm h; ⟨z.1, z.2.1, z.2.2.1⟩
/-! ### pools -/
def tSs : List Str → TA
  | [] => tNil
  | s :: r => tCons (tC (.str s)) (tSs r)
theorem ss_all : ∀ (ss : List Str) (σ : L2.St) (H : Hp) (R : List V → Hp → Prop), R (ss.map V.str) H → tSs ss σ H R
  | [], _, _, _, k => k
  | s :: r, σ, H, R, k => ss_all r σ H _ k
def tNs : List (List Str) → TA
  | [] => tNil
  | s :: r => tCons (tLst (tSs s)) (tNs r)
def PoolsAt (H : Hp) (vs : List V) : Prop := ∀ v ∈ vs, ∃ (l : Addr) (nm : List Str), v = .ref l ∧ H l = some (.lst (nm.map V.str)) ∧ nm ∈ poolsL
theorem PoolsAt.same {H H' : Hp} {vs : List V} (s : Same H H') (h : PoolsAt H vs) : PoolsAt H' vs := fun v hv => let ⟨l, nm, a, b, c⟩ := h v hv; ⟨l, nm, a, s _ _ b, c⟩
theorem ns_all : ∀ (nn : List (List Str)) (σ : L2.St) (H : Hp) (R : List V → Hp → Prop), (∀ n ∈ nn, n ∈ poolsL) → (∀ vs H', Same H H' → PoolsAt H' vs → vs.length = nn.length → R vs H') → tNs nn σ H R
  | [], _, H, _, _, k => k [] H (Same.refl H) (fun _ h => by cases h) rfl
  | n :: r, σ, H, R, m, k => by
    refine ss_all n σ H _ ⟨?_, fun p np => ?_⟩
    · rw [List.length_map, (pool_nm (m n (List.mem_cons_self ..))).len]
      decide
    · refine ns_all r σ _ _ (fun x hx => m x (List.mem_cons_of_mem _ hx)) fun vs H' sm hv lv => ?_
      refine k (.ref p :: vs) H' ((same_new np).trans sm) (fun v hv' => ?_) (by rw [List.length_cons, lv]; rfl)
      rcases List.mem_cons.mp hv' with rfl | hv'
      · exact ⟨p, n, rfl, sm _ _ upd_same, m n (List.mem_cons_self ..)⟩
      · exact hv v hv'
theorem lst_pools {nn : List (List Str)} {σ : L2.St} {H : Hp} {Q : VK} (few : nn.length ≤ 100) (mem : ∀ n ∈ nn, n ∈ poolsL) (k : ∀ (l : Addr) (vs : List V) (H' : Hp), Same H H' → H' l = some (.lst vs) → PoolsAt H' vs → vs.length = nn.length → Q (.ref l) H') : tLst (tNs nn) σ H Q :=
  ns_all nn σ H _ mem fun vs H' sm hv lv => ⟨by rw [lv]; exact Nat.le_trans few (by decide), fun p np => k p vs _ (sm.trans (same_new np)) upd_same (hv.same (same_new np)) lv⟩
def pools4 : List (List Str) := [["a", "b", "c", "d"], ["d", "c", "b", "a"], ["zz", "y", "zzzzzzzz", "x"], ["led", "open", "pair", "plan"]]
def pools1 : List (List Str) := [["m", "ma", "l", "mab"]]
theorem pools_mem : (∀ n ∈ pools4, n ∈ poolsL) ∧ ∀ n ∈ pools1, n ∈ poolsL := by decide +kernel
theorem asg_seq {te : TE} {gt : TG} {u : L2.TS} {D : Ends} {σ : L2.St} {H : Hp} (h : te σ H fun x H1 => gt x σ H1 (u D)) : tSeq (tAsg te gt) u D σ H := h
theorem head_app {x st : Str} {a c : Nat} {rest : List Nat} (h : x.cps.toList = a :: c :: rest) : headC (x ++ st) = a := by
  unfold headC
  rw [app_cps, h]
  rfl
theorem grown_ok {ws : List Str} (W : WsOk ws) {j : Nat} {x : Str} (hx : ws[j]? = some x) (l6 : x.length ≤ 6) {st : Str} (hs : st = "" ∨ ∃ d, d ∈ ws.map headC ∧ st = ⟨#[d]⟩) : WsOk (ws.set j (x ++ st)) := by
  have lt := (List.getElem?_eq_some_iff.mp hx).1
  obtain ⟨a, c, rest, hc, hh, ha, h1, h2, h3⟩ := word_is (W.each x (List.mem_of_getElem? hx))
  have heads : (ws.set j (x ++ st)).map headC = ws.map headC := by
    rw [List.map_set, head_app hc, ← hh]
    refine List.ext_getElem? fun i => ?_
    by_cases e : i = j
    · subst e
      rw [List.getElem?_set_self (by rw [List.length_map]; exact lt), List.getElem?_map, hx]
      rfl
    · rw [List.getElem?_set_ne (Ne.symm e)]
  refine ⟨by rw [List.length_set]; exact W.l1, by rw [List.length_set]; exact W.l4, by rw [heads]; exact W.nd, by rw [heads]; exact W.le, by rw [heads]; exact W.a, fun y hy => ?_⟩
  rw [heads]
  rcases List.mem_or_eq_of_mem_set hy with h | rfl
  · exact W.each y h
  · have lr : rest.length ≤ 4 := by
      have z : x.cps.toList.length ≤ 6 := l6
      rw [hc, List.length_cons, List.length_cons] at z
      omega
    have e : (x ++ st).cps.toList = a :: c :: (rest ++ st.cps.toList) := by
      rw [app_cps, hc]
      rfl
    have t1 : ∀ d ∈ st.cps.toList, d ∈ ws.map headC := by
      rcases hs with rfl | ⟨d, hd, rfl⟩
      · exact fun d h => by cases h
      · exact fun d' h => (List.mem_singleton.mp h) ▸ hd
    have t2 : st.cps.toList.length ≤ 1 := by
      rcases hs with rfl | ⟨d, hd, rfl⟩
      · exact Nat.zero_le _
      · exact Nat.le_refl _
    unfold wordB
    rw [e]
    show (decide (a ∈ ws.map headC) && decide (49 ≤ c ∧ c ≤ 57) && ((rest ++ st.cps.toList).all fun d => decide (d = 42 ∨ d ∈ ws.map headC)) && decide ((rest ++ st.cps.toList).length ≤ 5)) = true
    rw [decide_eq_true ha, decide_eq_true h1, decide_eq_true (show (rest ++ st.cps.toList).length ≤ 5 by rw [List.length_append]; omega), List.all_eq_true.mpr fun d hd => decide_eq_true ((List.mem_append.mp hd).elim (h2 d) fun h => .inr (t1 d h))]
    rfl
structure CaseOk (g : Pg) (p : Int) : Prop where
  gw : GW g
  p0 : 0 ≤ p
  p6 : p ≤ 6
  few : (foundP g p).length ≤ 6
  no : rowOf g "nobody" = none
theorem found0 {g : Pg} (G : GW g) : (foundP g 0).length = 0 := by
  have z := found_good G (p := 0)
  cases h : foundP g 0 with
  | nil => rfl
  | cons s r =>
    rw [h] at z
    have := (z.all s (List.mem_cons_self ..)).2.2
    omega
theorem named_no {g : Pg} {ws nm : List Str} (W : WsOk ws) (N : NmOk nm) (h : NamedG g ws nm) {x : Str} (no : x ∉ nm) : rowOf g x = none := by
  refine row_none fun hx => no ?_
  obtain ⟨e, he, rfl⟩ := List.mem_map.mp hx
  obtain ⟨es1, pm, le, each⟩ := h.rows
  obtain ⟨j, hj, ej⟩ := List.mem_iff_getElem.mp (pm.mem_iff.mp he)
  have hx : ws[j]? = some (ws[j]'(by omega)) := List.getElem?_eq_getElem (by omega)
  obtain ⟨e', he', E⟩ := each j _ hx
  rw [List.getElem?_eq_getElem hj, ej] at he'
  cases he'
  obtain ⟨a0, c, rest, hc, _, ha, _⟩ := word_is (W.each _ (List.mem_of_getElem? hx))
  obtain ⟨a, c', rest', hc', n, _⟩ := E.ex
  rw [hc] at hc'
  injection hc' with z _
  rw [n, ← z]
  exact (nm_in N (W.le _ ha)).1
def spCa (K : PySem.W.Frag) : Sp := fun vs H Q _ => ∃ (f a : Addr) (ns : List Int) (c : Nat), vs = [.ref f, .int 6] ∧ Fd f a ns H c ∧ c + 100 < 100000 ∧
  ∀ (p : Addr) (v : V) (g : Pg) (pw : Int) (H' : Hp), Keep f H H' → Fd f a ns H' (c + 60) → H' p = some (.tup [v, .int pw]) → PgAt K H' v g → CaseOk g pw → Q (.ref p) H'
section
variable {P : Program} {w : World} {K : PySem.W.Frag} {mg : Str → Option Value} {base : Heap}
theorem ok_ca {g gD gA gS gN gM gP : Addr} {fd fdD fdA fdS fdN fdM fdP : FuncData} (F : Fun K "_law_case" "_law_case" (topS 50) g fd)
    (D : Def K mg "_law_draw" 41 ["_law_feed_here", "_law_wide"] gD fdD) (GD : FnOk P w K mg base CX0 1 gD fdD ["_law_feed_here", "_law_wide"] spDraw)
    (An : Def K mg "_law_any" 42 ["_law_feed_here", "_law_some"] gA fdA) (GA : FnOk P w K mg base CX0 2 gA fdA ["_law_feed_here", "_law_some"] (spAny K))
    (Sc : Def K mg "_law_scenes" 47 [] gS fdS) (GS : FnOk P w K mg base CX0 1 gS fdS [] spSc)
    (Dn : Def K mg "_law_drawn" 49 ["_law_feed_here"] gN fdN) (GN : FnOk P w K mg base CX0 2 gN fdN ["_law_feed_here"] spDn)
    (Nm : Def K mg "_law_named" 48 ["_law_words", "_law_names"] gM fdM) (GM : FnOk P w K mg base CX0 1 gM fdM ["_law_words", "_law_names"] (spNm K))
    (Pa : Def K mg "_law_pairs" 46 ["_law_book", "_law_power"] gP fdP) (GP : FnOk P w K mg base CX0 3 gP fdP ["_law_book", "_law_power"] (spLp K))
    (ml : mg "len" = none) (mi : mg "int" = none) (mr : mg "range" = none) : FnOk P w K mg base CX0 4 g fd ["_law_feed_here", "_law_most"] (spCa K) := by
  refine F.ok scCa (fun vs H Q E h => ?_) (fun cdv A outer s H vs Q E hr h => ?_)
  · obtain ⟨f, a, ns, c, rfl, _⟩ := h
    rfl
  · obtain ⟨f, a, ns, c, rfl, fd0, hc, q⟩ := h
    have hr1 : Room 1 _ := hr.mono (by decide)
    have hr2 : Room 2 _ := hr.mono (by decide)
    refine ⟨_, (pss_cons (ps_set (i := 2) scCa.nd rfl (.inl rfl) (pe_lst (pa_cons (pe_lst (pa_cons pe_str (pa_cons pe_str (pa_cons pe_str (pa_cons pe_str pa_nil))))) (pa_cons (pe_lst (pa_cons pe_str (pa_cons pe_str (pa_cons pe_str (pa_cons pe_str pa_nil))))) (pa_cons (pe_lst (pa_cons pe_str (pa_cons pe_str (pa_cons pe_str (pa_cons pe_str pa_nil))))) (pa_cons (pe_lst (pa_cons pe_str (pa_cons pe_str (pa_cons pe_str (pa_cons pe_str pa_nil))))) pa_nil))))))
      (pss_cons (ps_set (i := 3) scCa.nd rfl (.inl rfl) (pe_call GA hr2 (by rfl) An.m An.F.kp An.b .nil pass0 (pa_cons (pv 0) (pa_cons (pe_op op_cat (pv 2) (pe_lst (pa_cons (pe_lst (pa_cons pe_str (pa_cons pe_str (pa_cons pe_str (pa_cons pe_str pa_nil))))) pa_nil))) pa_nil))))
      (pss_cons (ps_if (pt_cmpR op_eq (pe_call GD hr1 (by rfl) D.m D.F.kp D.b .nil pass0 (pa_cons (pv 0) (pa_cons pe_int pa_nil))) pe_int (nomark _)) (pss_cons (ps_asg (pe_call GA hr2 (by rfl) An.m An.F.kp An.b .nil pass0 (pa_cons (pv 0) (pa_cons (pe_call0 GS hr1 (by rfl) Sc.m Sc.F.kp Sc.b .nil pass0) pa_nil))) (pg_tup (by rfl) (pgs_cons (pg_name (i := 4) scCa.nd rfl (.inl rfl)) (pgs_cons (pg_name (i := 5) scCa.nd rfl (.inl rfl)) pgs_nil))))
      (pss_cons (ps_set (i := 6) scCa.nd rfl (.inl rfl) (pe_split (pv 4) pe_str))
      (pss_cons (ps_if (pt_cmpR op_eq (pe_call GD hr1 (by rfl) D.m D.F.kp D.b .nil pass0 (pa_cons (pv 0) (pa_cons pe_int pa_nil))) pe_int (nomark _)) (pss_cons (ps_par (i := 7) (j := 8) (by rfl) scCa.nd rfl rfl (by decide) rfl rfl (pa_cons (pe_call GD hr1 (by rfl) D.m D.F.kp D.b .nil pass0 (pa_cons (pv 0) (pa_cons (pe_callB call_len_seq (by rfl) ml PySem.boot_len (pa_cons (pv 6) pa_nil)) pa_nil))) (pa_cons (pe_call GA hr2 (by rfl) An.m An.F.kp An.b .nil pass0 (pa_cons (pv 0) (pa_cons (pe_lc (own := [("_law_own", 11)]) (g := gName 11) (by rfl) scCa.nd (pi_list (pv 6)) (blkOk_by (own := [("_law_own", 11)]) (N := nCa) (sc := defScope (topS 50)) (by decide +kernel)) (fun _ _ _ _ _ => pg_name (i := 11) scCa.nd rfl (Or.inl rfl)) (fun _ _ _ _ _ => pts_nil) (fun _ _ _ _ _ => (pe_ix ix_str (pv 11) pe_int (fun _ _ => rfl)))) pa_nil))) pa_nil)) (by rfl))
      (pss_one (ps_asg (pe_op op_add_str (pe_ix ix_list (pv 6) (pv 7) (fun _ _ => rfl)) (pe_ifExp (pt_cmpR op_in_sign (pv 8) (pe_slice sl_str (pe_ix ix_list (pv 6) (pv 7) (fun _ _ => rfl)) (po_some pe_int) po_none) (by rfl)) pe_str (pv 8))) (pg_sub (pv 6) (pv 7) set_list)))) pss_nil)
      (pss_one (ps_set (i := 5) scCa.nd rfl (.inl rfl) (pe_ifExp (pt_cmpR op_eq (pe_call GD hr1 (by rfl) D.m D.F.kp D.b .nil pass0 (pa_cons (pv 0) (pa_cons pe_int pa_nil))) pe_int (nomark _)) (pe_call GD hr1 (by rfl) D.m D.F.kp D.b .nil pass0 (pa_cons (pv 0) (pa_cons pe_int pa_nil))) (pv 5))))))) (pss_one (ps_par (i := 6) (j := 5) (by rfl) scCa.nd rfl rfl (by decide) rfl rfl (pa_cons (pe_call GN hr2 (by rfl) Dn.m Dn.F.kp Dn.b .nil pass0 (pa_cons (pv 0) pa_nil)) (pa_cons (pe_call GD hr1 (by rfl) D.m D.F.kp D.b .nil pass0 (pa_cons (pv 0) (pa_cons pe_int pa_nil))) pa_nil)) (by rfl))))
      (pss_cons (ps_set (i := 9) scCa.nd rfl (.inl rfl) (pe_call GM hr1 (by rfl) Nm.m Nm.F.kp Nm.b .nil pass0 (pa_cons (pv 6) (pa_cons (pv 3) pa_nil))))
      (pss_cons (ps_for PassesOwn.never rfl (pi_range1 (by rfl) mr (pa_cons pe_int pa_nil)) (pg_name (i := 10) scCa.nd rfl (.inl rfl)) (pss_one (ps_set (i := 5) scCa.nd rfl (.inl rfl) (pe_op op_sub (pv 5) (pe_callTy call_int1 (by rfl) mi boot_int (pa_cons (pe_cmpR op_gt (pe_callB call_len_seq (by rfl) ml PySem.boot_len (pa_cons (pe_call GP hr (by rfl) Pa.m Pa.F.kp Pa.b .nil pass0 (pa_cons (pv 9) (pa_cons (pv 5) pa_nil))) pa_nil)) (pv 1) (nomark _)) pa_nil))))))
      (pss_one (ps_ret (pe_tup (pa_cons (pv 9) (pa_cons (pv 5) pa_nil)))))))))), ?_⟩
    refine asg_seq (lst_pools (nn := pools4) (by decide) pools_mem.1 fun l1 v1 H1 s1 e1 h1 n1 => ?_)
    dsimp only [gName]
    have fd1 := fd0.same s1
    refine asg_seq ?_
    refine ⟨.ref f, rfl, .ref l1, rfl, lst_pools (nn := pools1) (by decide) pools_mem.2 fun l2 v2 H2 s2 e2 h2 n2 => ?_⟩
    refine ⟨l1, l2, v1, v2, rfl, rfl, s2 _ _ e1, e2, by rw [n1, n2]; decide, fun l3 n3 => ?_⟩
    have s3 := same_new (o := .lst (v1 ++ v2)) n3
    have e3 : (upd H2 l3 (.lst (v1 ++ v2))) l3 = some (.lst (v1 ++ v2)) := upd_same
    generalize upd H2 l3 (.lst (v1 ++ v2)) = H3 at s3 e3 ⊢
    have hP : PoolsAt H3 (v1 ++ v2) := fun v hv => (List.mem_append.mp hv).elim (fun z => (h1.same (s2.trans s3)) v z) fun z => (h2.same s3) v z
    have fd3 := fd1.same (s2.trans s3)
    refine ⟨f, a, l3, ns, c, _, rfl, fd3, by omega, .inl (.inl e3), by rw [List.length_append, n1, n2]; decide, by rw [List.length_append, n1, n2]; decide, fun y H4 hy k4 fd4 => ?_⟩
    obtain ⟨ln, nm, rfl, en, hnm⟩ := hP y hy
    have neN : ln ≠ f := fd_ne fd3 en
    have en4 := k4 _ _ neN en
    have k04 : Keep f H H4 := (keep_same (s1.trans (s2.trans s3))).trans k4
    dsimp only [gName]
    refine seq_mid (fun σ G => ∃ (lw : Addr) (ws : List Str) (pw : Int) (c1 : Nat) (y4 y7 y8 : Option V), σ = [some (.ref f), some (.int 6), some (.ref l1), some (.ref ln), y4, some (.int pw), some (.ref lw), y7, y8, none, none, none] ∧ c1 ≤ c + 50 ∧ Keep f H G ∧ Fd f a ns G c1 ∧ G lw = some (.lst (ws.map V.str)) ∧ WsOk ws ∧ G ln = some (.lst (nm.map V.str)) ∧ 0 ≤ pw ∧ pw ≤ 6) ?_ ?_
    · rintro σ G ⟨lw, ws, pw, c1, y4, y7, y8, rfl, lc1, kG, fdG, eW, W, eN, p0, p6⟩
      refine asg_seq ⟨.ref lw, rfl, .ref ln, rfl, lw, .ref ln, ws, nm, rfl, .inl (.inl eW), .inl ⟨ln, rfl, .inl (.inl eN)⟩, W, pool_nm hnm, fun v g H5 s5 pg nmd srt => ?_⟩
      have gw := named_good W (pool_nm hnm) nmd
      have no := named_no W (pool_nm hnm) nmd (pools_ok nm hnm).2.2.2
      dsimp only [gName]
      refine ⟨7, rfl, by decide, by decide, for_range (lo := 0) (n := (7 : Int).toNat) (fun i σ J => ∃ (pw : Int) (y10 : Option V), σ = [some (.ref f), some (.int 6), some (.ref l1), some (.ref ln), y4, some (.int pw), some (.ref lw), y7, y8, some v, y10, none] ∧ Same H5 J ∧ 0 ≤ pw ∧ pw ≤ 6 ∧ ((foundP g pw).length ≤ 6 ∨ pw ≤ 6 - (i : Int)))
        ⟨pw, none, rfl, Same.refl _, p0, p6, .inr (by omega)⟩ ?_ ?_⟩
      · rintro i σ J hi ⟨pw, y10, rfl, sJ, q0, q6, st⟩
        have pgJ := pg.same sJ
        refine ⟨.int pw, rfl, v, rfl, .int pw, rfl, v, g, pw, rfl, pgJ, gw, q0, q6, fun tq ys qs J2 s2 et hys pm _ => ?_⟩
        have len : (ys.length : Int) = ((foundP g pw).length : Nat) := by rw [hys.len, pm.length_eq]
        refine ⟨tq, ys, rfl, .inr (.inl (.inl et)), .int 6, rfl, ((ys.length : Nat) : Int), 6, rfl, rfl, ?_⟩
        by_cases big : 6 < (foundP g pw).length
        · have p1 : 1 ≤ pw := by
            rcases Int.lt_or_le pw 1 with z | z
            · have : pw = 0 := by omega
              subst this
              rw [found0 gw] at big
              omega
            · exact z
          have e : (if decide ((6 : Int) < ((ys.length : Nat) : Int)) = true then (1 : Int) else 0) = 1 := if_pos (decide_eq_true (by omega))
          refine .inr ⟨_, rfl, pw, _, rfl, rfl, pw - (if decide ((6 : Int) < ((ys.length : Nat) : Int)) = true then (1 : Int) else 0), _, rfl, sJ.trans s2, ?_⟩
          rw [e]
          refine ⟨by omega, by omega, .inr ?_⟩
          rcases st with z | z
          · omega
          · omega
        · have e : (if decide ((6 : Int) < ((ys.length : Nat) : Int)) = true then (1 : Int) else 0) = 0 := if_neg (by rw [decide_eq_false (by omega)]; exact Bool.false_ne_true)
          refine .inr ⟨_, rfl, pw, _, rfl, rfl, pw - (if decide ((6 : Int) < ((ys.length : Nat) : Int)) = true then (1 : Int) else 0), _, rfl, sJ.trans s2, ?_⟩
          rw [e, Int.sub_zero]
          exact ⟨q0, q6, .inl (by omega)⟩
      · rintro σ J ⟨pw, y10, rfl, sJ, q0, q6, st⟩
        refine ⟨v, rfl, .int pw, rfl, (show 2 ≤ sizeLine by decide), fun t nt => ?_⟩
        have kJ : Keep f H J := kG.trans (keep_same (s5.trans sJ))
        have nt0 := same_new (o := .tup [v, .int pw]) nt
        refine q t v g pw _ (kJ.trans (keep_same nt0)) (((fdG.same (s5.trans sJ)).same nt0).more (by omega)) upd_same ((pg.same sJ).same nt0) ⟨gw, q0, q6, ?_, no⟩
        rcases st with z | z
        · exact z
        · have z : pw ≤ 6 - ((7 : Nat) : Int) := z
          omega
    · intro R k
      refine ⟨.ref f, rfl, f, a, ns, c + 1, 2, rfl, by omega, by omega, fd4, by omega, fun z H5 z0 z2 k5 fd5 => ?_⟩
      have k05 := k04.trans k5
      have en5 := k5 _ _ neN en4
      refine ⟨rfl, _, rfl, ?_⟩
      cases zz : decide (V.int z = V.int 0)
      · refine iteF ?_
        refine ⟨.ref f, rfl, f, a, ns, c + 2, rfl, fd5, by omega, fun lw ws H6 k6 fd6 nlw nelw elw W => ?_⟩
        refine ⟨.ref f, rfl, f, a, ns, c + 42, 7, rfl, by omega, by omega, fd6, by omega, fun z7 H7 y0 y7 k7 fd7 => ⟨.ref lw, .int z7, rfl, ?_⟩⟩
        exact k _ _ ⟨lw, ws, z7, c + 43, _, _, _, rfl, by omega, (k05.trans k6).trans k7, fd7, k7 _ _ nelw elw, W, k7 _ _ neN (k6 _ _ neN en5), y0, by omega⟩
      · refine iteT ?_
        refine asg_seq ⟨.ref f, rfl, rfl, fun ls ys Hs ss els hys => ⟨f, a, ls, ns, c + 2, ys, rfl, fd5.same ss, by omega, .inl (.inl els), ?_, ?_, fun x H6 hx k6 fd6 => ?_⟩⟩
        · rw [hys.len]
          decide
        · rw [hys.len]
          decide
        obtain ⟨i0, hi0, ei0⟩ := List.mem_iff_getElem.mp hx
        obtain ⟨s0, hs0, pt, rfl, ept⟩ := hys.get (show ys[i0]? = some x by rw [List.getElem?_eq_getElem hi0, ei0])
        obtain ⟨wok, pwk, tlen⟩ := scenes_ok s0 (List.mem_of_getElem? hs0)
        have nept : pt ≠ f := by
          obtain ⟨⟨kvs, t, x, n, hh, _⟩, _, _⟩ := fd5.same ss
          exact ne_of ept hh (by intro z; cases z)
        have ept6 := k6 _ _ nept ept
        have k06 := (k05.trans (keep_same ss)).trans k6
        have en6 := k6 _ _ neN (ss _ _ en5)
        refine ⟨pt, _, rfl, .inl (.inl ept6), rfl, _, _, rfl, _, _, rfl, rfl, ?_⟩
        refine asg_seq ⟨_, rfl, ⟨_, rfl⟩, _, _, rfl, rfl, rfl, Nat.le_trans (show s0.1.length + 2 ≤ 1000 by omega) (by decide), fun L nL => ?_⟩
        obtain ⟨W, l6⟩ := wsB_ok wok
        generalize Txt.split s0.1 " " = ws at W l6 ⊢
        have fdL := fd6.free nL
        have fd7 : Fd f a ns (upd H6 L (.lst (ws.map V.str))) (c + 3) := fd6.own fdL.1 fdL.2
        have k07 := k06.trans (keep_same (same_new (o := .lst (ws.map V.str)) nL))
        have eL : (upd H6 L (.lst (ws.map V.str))) L = some (.lst (ws.map V.str)) := upd_same
        have neLN : L ≠ ln := Ne.symm (ne_of_none en6 nL)
        have en7 : (upd H6 L (.lst (ws.map V.str))) ln = some (.lst (nm.map V.str)) := (upd_ne neLN.symm).trans en6
        have nL0 := ne_free fd6 k06 nL
        have neLf := fdL.1.symm
        generalize upd H6 L (.lst (ws.map V.str)) = H7 at fd7 k07 eL en7 ⊢
        dsimp only [gName]
        refine seq_mid (fun σ G => ∃ (ws : List Str) (c1 : Nat) (y7 y8 : Option V), σ = [some (.ref f), some (.int 6), some (.ref l1), some (.ref ln), some (.str s0.1), some (.int s0.2), some (.ref L), y7, y8, none, none, none] ∧ c1 ≤ c + 10 ∧ Keep f H G ∧ Fd f a ns G c1 ∧ G L = some (.lst (ws.map V.str)) ∧ WsOk ws ∧ G ln = some (.lst (nm.map V.str))) ?_ ?_
        · rintro σ G ⟨ws, c1, y7, y8, rfl, lc1, kG, fdG, eW, W, eN⟩
          refine ⟨.ref f, rfl, f, a, ns, c1, 3, rfl, by omega, by omega, fdG, by omega, fun z3 H8 w0 w3 k8 fd8 => ⟨rfl, _, rfl, ?_⟩⟩
          have eW8 := k8 _ _ neLf eW
          have eN8 := k8 _ _ neN eN
          cases zz3 : decide (V.int z3 = V.int 0)
          · exact iteF ⟨_, rfl, k _ _ ⟨L, ws, s0.2, c1 + 1, _, _, _, rfl, by omega, kG.trans k8, fd8, eW8, W, eN8, pwk.1, pwk.2⟩⟩
          · refine iteT ⟨.ref f, rfl, f, a, ns, c1 + 1, 7, rfl, by omega, by omega, fd8, by omega, fun z7 H9 y0 y7 k9 fd9 => ?_⟩
            exact k _ _ ⟨L, ws, z7, c1 + 2, _, _, _, rfl, by omega, (kG.trans k8).trans k9, fd9, k9 _ _ neLf eW8, W, k9 _ _ neN eN8, y0, by omega⟩
        · intro R2 k2
          refine ⟨.ref f, rfl, f, a, ns, c + 3, 3, rfl, by omega, by omega, fd7, by omega, fun z3 H8 w0 w3 k8 fd8 => ⟨rfl, _, rfl, ?_⟩⟩
          have eL8 := k8 _ _ neLf eL
          have eN8 := k8 _ _ neN en7
          cases zz3 : decide (V.int z3 = V.int 0)
          · exact iteF (k2 _ _ ⟨ws, c + 4, none, none, rfl, by omega, k07.trans k8, fd8, eL8, W, eN8⟩)
          · have w1 := W.l1
            have w4 := W.l4
            have lws : ((ws.map V.str).length : Int) = (ws.length : Nat) := by rw [List.length_map]
            refine iteT ⟨.ref f, rfl, .ref L, rfl, L, _, rfl, .inl (.inl (.inl eL8)), f, a, ns, c + 4, _, rfl, by omega, by omega, fd8, by omega, fun zj H9 j0 jl k9 fd9 => ?_⟩
            have eL9 := k9 _ _ neLf eL8
            have eN9 := k9 _ _ neN eN8
            refine ⟨.ref f, rfl, .ref L, rfl, L, rfl, ⟨_, .inl (.inl eL9)⟩, fun B nB => ?_⟩
            refine lc_it (walk_list (K := K) (a := L) (xs := ws.map V.str)) (fun i G => Same H9 G ∧ G B = some (.lst ((ws.take i).map fun x => V.str ⟨#[headC x]⟩))) ⟨same_new nB, upd_same⟩ (fun i G _ h => .inl (.inl (h.1 _ _ eL9))) ?_ ?_
            · rintro i y G G' hi ⟨sm, eB⟩ ⟨rfl, hy⟩
              obtain ⟨x, hx, rfl⟩ := map_get hy
              obtain ⟨a0, c0, rest, hc0, hh, _, _, _, hl⟩ := word_is (W.each x (List.mem_of_getElem? hx))
              have lx : x.length = rest.length + 2 := by
                have : x.cps.toList.length = rest.length + 2 := by rw [hc0]; rfl
                exact this
              refine ⟨rfl, ?_⟩
              dsimp only [tYes]
              refine iteT ⟨.str x, rfl, x, 0, a0, rfl, rfl, Nat.le_trans (show x.length ≤ 1000 by omega) (by decide), atI_nat (j := 0) (by rw [hc0]; rfl), _, eB, small' (by rw [List.length_map, List.length_take]; omega), putS sm nB, ?_⟩
              rw [upd_same, List.take_add_one, hx, List.map_append, ← hh]
              rfl
            · rintro G ⟨sm, eB⟩
              rw [List.length_map, List.take_length] at eB
              have fdG := fd9.same sm
              refine ⟨f, a, B, ns, c + 5, _, rfl, fdG, by omega, .inl (.inl eB), by rw [List.length_map]; omega, by rw [List.length_map]; omega, fun y H10 hy k10 fd10 => ⟨.int zj, y, rfl, ?_⟩⟩
              obtain ⟨xh, hxh, rfl⟩ := List.mem_map.mp hy
              have hd : headC xh ∈ ws.map headC := List.mem_map.mpr ⟨xh, hxh, rfl⟩
              have eL10 := k10 _ _ neLf (sm _ _ eL9)
              have eN10 := k10 _ _ neN (sm _ _ eN9)
              obtain ⟨j, rfl⟩ := Int.eq_ofNat_of_zero_le j0
              have jlt : j < ws.length := by omega
              have hx : ws[j]? = some (ws[j]'jlt) := List.getElem?_eq_getElem jlt
              generalize ws[j]'jlt = x at hx
              have lx := l6 x (List.mem_of_getElem? hx)
              have at1 : atI (ws.map V.str) ((j : Nat) : Int) = some (.str x) := atI_nat (by rw [List.getElem?_map, hx]; rfl)
              have ixj : ixN (ws.map V.str).length ((j : Nat) : Int) = some j := by
                unfold ixN
                rw [if_pos (Int.natCast_nonneg j), if_pos (by rw [List.length_map]; omega)]
                rfl
              have k010 : Keep f H H10 := (((k07.trans k8).trans k9).trans (keep_same sm)).trans k10
              have fin : ∀ st : Str, (st = "" ∨ ∃ d, d ∈ ws.map headC ∧ st = ⟨#[d]⟩) → R2 [some (.ref f), some (.int 6), some (.ref l1), some (.ref ln), some (.str s0.1), some (.int s0.2), some (.ref L), some (.int (j : Nat)), some (.str ⟨#[headC xh]⟩), none, none, none] (upd H10 L (.lst ((ws.map V.str).set j (.str (x ++ st))))) := fun st hs => by
                refine k2 _ _ ⟨ws.set j (x ++ st), c + 6, _, _, rfl, by omega, keep_put k010 nL0, fd10.own fdL.1 fdL.2, ?_, grown_ok W hx lx hs, (upd_ne neLN.symm).trans eN10⟩
                rw [upd_same, List.map_set]
              refine ⟨.ref L, rfl, .int (j : Nat), rfl, L, _, _, _, rfl, rfl, .inl (.inl eL10), at1, ?_⟩
              have lxs : x.length ≤ sizeLine := Nat.le_trans (show x.length ≤ 1000 by omega) (by decide)
              have big : 1000 ≤ sizeLine := by decide
              refine ⟨.str ⟨#[headC xh]⟩, rfl, .ref L, rfl, .int (j : Nat), rfl, L, _, _, _, rfl, rfl, .inl (.inl eL10), at1, 2, rfl, x, rfl, lxs, headC xh, _, rfl, rfl, _, rfl, ?_⟩
              cases zin : decide (headC xh ∈ (cutS x (some 2) none).cps.toList)
              · refine iteF ⟨.str ⟨#[headC xh]⟩, rfl, _, _, rfl, rfl, ?_, .ref L, rfl, .int (j : Nat), rfl, L, _, (j : Nat), j, rfl, rfl, eL10, ixj, fin _ (.inr ⟨_, hd, rfl⟩)⟩
                show x.length + 1 ≤ _
                omega
              · refine iteT ⟨_, _, rfl, rfl, ?_, .ref L, rfl, .int (j : Nat), rfl, L, _, (j : Nat), j, rfl, rfl, eL10, ixj, fin _ (.inl rfl)⟩
                show x.length + 0 ≤ _
                omega
end
end Kn


namespace Kn
open PySem PySem.Spec PyProof.Rows L2
abbrev nLd : List Str := ["_law_book", "_law_some", "_law_duo", "_law_own"]
theorem scLd : FnScope nLd ["_law_book", "_law_some", "_law_duo"] (defScope (topS 51)) := ⟨rfl, rfl, rfl, by decide +kernel, rfl, by decide +kernel, by decide +kernel⟩
abbrev nLi : List Str := ["_law_book", "_law_power", "_law_some", "_law_ask", "_law_loose", "_law_duo"]
theorem scLi : FnScope nLi ["_law_book", "_law_power", "_law_some"] (defScope (topS 52)) := ⟨rfl, rfl, rfl, by decide +kernel, rfl, by decide +kernel, by decide +kernel⟩
/-- a comprehension with a filter over pairs -/
theorem lc_prs {K : PySem.W.Frag} {a : Addr} {xs : List V} {ps : List (Str × Int)} {slot : Nat} {tl : TE} {tt : TT} {vs : List Nat} {σ : L2.St} {H : Hp} {Q : VK} (c : Str × Int → Bool) (hT : SqT K H a xs) (hd : DpAll K H xs (ps.map dPr)) (few : ps.length ≤ 1000)
    (htl : ∀ R : VK, R (.ref a) H → tl σ H R) (w : ∀ v, wipe ((wipe σ vs).set slot (some v)) vs = wipe σ vs) (get : ∀ v, ((wipe σ vs).set slot (some v))[slot]? = some (some v))
    (test : ∀ (x : V) (s : Str × Int) (G : Hp) (R : Bool → Hp → Prop), s ∈ ps → Dp K G x (dPr s) → Same H G → (∀ G', Same G G' → R (c s) G') → tt ((wipe σ vs).set slot (some x)) G R)
    (done : ∀ (D : Addr) (acc : List V) (G : Hp), H D = none → Same H G → G D = some (.lst acc) → DpAll K H acc ((ps.filter c).map dPr) → Q (.ref D) G) : tLc (iTup K tl) (gName slot) tt (tVar slot) vs σ H Q := by
  refine htl _ ⟨a, rfl, ⟨xs, hT⟩, fun D nD => ?_⟩
  have lx : xs.length = ps.length := by rw [dsLen hd, List.length_map]
  refine lc_tup (K := K) (a := a) (xs := xs) (fun i G => Same H G ∧ ∃ acc, G D = some (.lst acc) ∧ acc.length ≤ i ∧ DpAll K H acc (((ps.take i).filter c).map dPr)) ⟨same_new nD, [], upd_same, Nat.le_refl _, .nil⟩ (fun i G _ h => tupS h.1 hT) ?_ ?_
  · rintro i x G hx ⟨sm, acc, eD, la, hacc⟩
    have hi : i < xs.length := (List.getElem?_eq_some_iff.mp hx).1
    obtain ⟨d, hdi, dp⟩ := dsAt hd i x hx
    obtain ⟨s, hs, rfl⟩ := map_get hdi
    refine ⟨w x, ?_⟩
    refine test x s G _ (List.mem_of_getElem? hs) (dKeep sm dp) sm fun G' s' => ?_
    have tk : ps.take (i + 1) = ps.take i ++ [s] := by rw [List.take_add_one, hs]; rfl
    cases z : c s
    · refine iteF ⟨sm.trans s', acc, s' _ _ eD, by omega, ?_⟩
      rw [tk, List.filter_append, List.filter_cons, z]
      simpa using hacc
    · refine iteT ⟨x, get x, acc, s' _ _ eD, small' (by omega), putS (sm.trans s') nD, acc ++ [x], upd_same, by rw [List.length_append]; show acc.length + 1 ≤ _; omega, ?_⟩
      rw [tk, List.filter_append, List.filter_cons, z, List.map_append]
      exact dsApp hacc (.cons dp .nil)
  · rintro G ⟨sm, acc, eD, la, hacc⟩
    rw [lx, List.take_length] at hacc
    exact done D acc G nD sm eD hacc
def okP (g : Pg) (s : Str × Int) : Prop := (rowOf g s.1).isSome = true ∧ s.2.natAbs < 900
theorem okP_good {g : Pg} (G : GW g) {s : Str × Int} (h : okP g s) : goodD (dPr s) = true := by
  obtain ⟨e, he⟩ := Option.isSome_iff_exists.mp h.1
  obtain ⟨em, en⟩ := row_is he
  exact pr_good (en ▸ G.nm e em) (by have := h.2; omega)
theorem okP_left {g : Pg} (G : GW g) {s t : Str × Int} (h : okP g s) (ht : t ∈ lvOf g s) : goodD (dPr t) = true := by
  have k := lv_known G ht
  have l := lv_low G ht
  obtain ⟨e, he⟩ := Option.isSome_iff_exists.mp k.1
  obtain ⟨em, en⟩ := row_is he
  exact pr_good (en ▸ G.nm e em) (by have := h.2; omega)
theorem dp_lst {K : PySem.W.Frag} {H : Hp} {l : Addr} {xs : List V} {ds : List PyData} (e : H l = some (.lst xs)) (h : DpAll K H xs ds) : Dp K H (.ref l) (.list ds) := .lst (.inl (.inl e)) h
theorem prs_deep : ∀ ss : List (Str × Int), PyData.depthAll (ss.map dPr) ≤ 1
  | [] => Nat.zero_le _
  | s :: r => by
    show max (dPr s).depth (PyData.depthAll (r.map dPr)) ≤ 1
    have := prs_deep r
    have z : (dPr s).depth = 1 := rfl
    omega
theorem prs_goods {ss : List (Str × Int)} (h : ∀ s ∈ ss, goodD (dPr s) = true) : goodDs (ss.map dPr) = true := by
  induction ss with
  | nil => rfl
  | cons s ss ih =>
    show (goodD (dPr s) && goodDs (ss.map dPr)) = true
    rw [h s (List.mem_cons_self ..), ih fun x hx => h x (List.mem_cons_of_mem _ hx)]
    rfl
theorem prs_shaped {ss : List (Str × Int)} (h : ∀ s ∈ ss, goodD (dPr s) = true) : SeqAt.shaped (.list (ss.map dPr)) = true ∧ SeqAt.shaped (.tuple (ss.map dPr)) = true := by
  have d := prs_deep ss
  refine ⟨good_shaped (prs_goods h) ?_, good_shaped (prs_goods h) ?_⟩
  · have z : (PyData.list (ss.map dPr)).depth = PyData.depthAll (ss.map dPr) + 1 := rfl
    omega
  · have z : (PyData.tuple (ss.map dPr)).depth = PyData.depthAll (ss.map dPr) + 1 := rfl
    omega
theorem led_some {g : Pg} {ps : List (Str × Int)} {t : Str × Int} : (!((ps.filter fun o => decide (t ∈ lvOf g o)).map dPr).isEmpty) = decide (t ∈ lv g ps) := by
  by_cases h : t ∈ lv g ps
  · rw [decide_eq_true h]
    obtain ⟨s, hs, ht⟩ := List.mem_flatMap.mp h
    have z : s ∈ ps.filter fun o => decide (t ∈ lvOf g o) := List.mem_filter.mpr ⟨hs, decide_eq_true ht⟩
    cases e : ps.filter fun o => decide (t ∈ lvOf g o) with
    | nil => rw [e] at z; cases z
    | cons => rfl
  · rw [decide_eq_false h]
    have e : (ps.filter fun o => decide (t ∈ lvOf g o)) = [] := List.filter_eq_nil_iff.mpr fun s hs z => h (List.mem_flatMap.mpr ⟨s, hs, of_decide_eq_true z⟩)
    rw [e]
    rfl
def spLd (K : PySem.W.Frag) : Sp := fun vs H Q _ => ∃ (w v : V) (q : Addr) (g : Pg) (xs : List V) (ps : List (Str × Int)) (t : Str × Int), vs = [w, .ref q, v] ∧ PgAt K H w g ∧ GW g ∧ SqT K H q xs ∧ DpAll K H xs (ps.map dPr) ∧ ps.length ≤ 100 ∧ (∀ s ∈ ps, okP g s) ∧ Dp K H v (dPr t) ∧ okP g t ∧
  ∀ H', Same H H' → Q (.bl (decide (t ∈ lv g ps))) H'
def lawP (g : Pg) (p : Int) (ps : List (Str × Int)) : Bool := if canB g g.asks p then decide ((g.asks, p) ∈ ps) && ledP g (g.asks, p) ps else decide (ps = [])
def spLi (K : PySem.W.Frag) : Sp := fun vs H Q _ => ∃ (w : V) (q : Addr) (g : Pg) (p : Int) (xs : List V) (ps : List (Str × Int)), vs = [w, .int p, .ref q] ∧ PgAt K H w g ∧ GW g ∧ p.natAbs < 900 ∧ SqT K H q xs ∧ DpAll K H xs (ps.map dPr) ∧ ps.length ≤ 100 ∧ (∀ s ∈ ps, okP g s) ∧
  ∀ H', Same H H' → Q (.bl (lawP g p ps)) H'
section
variable {P : Program} {w : World} {K : PySem.W.Frag} {mg : Str → Option Value} {base : Heap}
theorem ok_ld {f fL : Addr} {fd fdL : FuncData} (F : Fun K "_law_led" "_law_led" (topS 51) f fd) (Le : Def K mg "_law_left" 44 ["_law_book", "_law_duo"] fL fdL) (GL : FnOk P w K mg base CX0 2 fL fdL ["_law_book", "_law_duo"] (spLl K)) :
    FnOk P w K mg base CX0 3 f fd ["_law_book", "_law_some", "_law_duo"] (spLd K) := by
  refine F.ok scLd (fun vs H Q E h => ?_) (fun cdv A outer s H vs Q E hr h => ?_)
  · obtain ⟨w0, v, q0, g, xs, ps, t, rfl, _⟩ := h
    rfl
  · obtain ⟨w0, v, q0, g, xs, ps, t, rfl, pg, G, hT, hd, few, okps, ht, okt, q⟩ := h
    have hu := hr.units
    refine ⟨_, (pss_one (ps_ret (pe_cmpR (op_neD hr.units) (pe_lc (own := [("_law_own", 3)]) (g := gName 3) (by rfl) scLd.nd (pi_tup (pv 1)) (blkOk_by (own := [("_law_own", 3)]) (N := nLd) (sc := defScope (topS 51)) (by decide +kernel)) (fun _ _ _ _ _ => pg_name (i := 3) scLd.nd rfl (Or.inl rfl)) (fun _ _ _ _ _ => (pts_one (pt_cmpR (r := rHasL K false) (op_inLD hu) (pv 2) (pe_call GL hr (by rfl) Le.m Le.F.kp Le.b .nil pass0 (pa_cons (pv 0) (pa_cons (pv 3) pa_nil))) (by rfl)))) (fun _ _ _ _ _ => (pv 3))) (pe_lst pa_nil) (nomark _)))), ?_⟩
    dsimp only [tRet, tOp, tCB, tCons, tNil]
    refine lc_prs (K := K) (a := q0) (xs := xs) (ps := ps) (fun o => decide (t ∈ lvOf g o)) hT hd (by omega) (fun R r => ⟨_, rfl, r⟩) (fun v => rfl) (fun v => rfl) ?_ ?_
    · intro x s0 G1 R hs dp sm k
      refine ⟨v, rfl, w0, rfl, x, rfl, w0, x, g, s0, rfl, pg.same sm, G, dp, (okps s0 hs).1, fun l ys G2 s2 _ el hys => ?_⟩
      refine ⟨dPr t, (lvOf g s0).map dPr, dKeep (sm.trans s2) ht, dp_lst el hys.dp, good_shaped (okP_good G okt) (show 1 ≤ 64 by decide), prs_lay fun t' h => okP_left G (okps s0 hs) h, (show 1 ≤ 60 by decide), _, rfl, ?_⟩
      rw [any_pr, Bool.bne_false]
      exact k G2 s2
    · intro D acc G1 nD sm eD hacc
      refine ⟨(show 0 ≤ sizeLine by decide), fun p np => ?_⟩
      have s2 := sm.trans (same_new (o := .lst []) np)
      have oks : ∀ s ∈ ps.filter fun o => decide (t ∈ lvOf g o), goodD (dPr s) = true := fun s hs => okP_good G (okps s (List.mem_filter.mp hs).1)
      refine ⟨_, .list [], dp_lst ((same_new (o := .lst []) np) _ _ eD) (dsKeep s2 hacc), dp_lst upd_same .nil, (prs_shaped oks).1, rfl, ?_⟩
      rw [eqv_nil2, led_some]
      exact q _ s2
theorem ok_li {f fC fD : Addr} {fd fdC fdD : FuncData} (F : Fun K "_law_is_plan" "_law_is_plan" (topS 52) f fd) (Cs : Def K mg "_law_can_send" 45 ["_law_book", "_law_duo"] fC fdC) (GC : FnOk P w K mg base CX0 2 fC fdC ["_law_book", "_law_duo"] (spLc K))
    (Ld : Def K mg "_law_led" 51 ["_law_book", "_law_some", "_law_duo"] fD fdD) (GD : FnOk P w K mg base CX0 3 fD fdD ["_law_book", "_law_some", "_law_duo"] (spLd K)) : FnOk P w K mg base CX0 4 f fd ["_law_book", "_law_power", "_law_some"] (spLi K) := by
  refine F.ok scLi (fun vs H Q E h => ?_) (fun cdv A outer s H vs Q E hr h => ?_)
  · obtain ⟨w0, q0, g, p, xs, ps, rfl, _⟩ := h
    rfl
  · obtain ⟨w0, q0, g, p, xs, ps, rfl, pg, G, pb, hT, hd, few, okps, q⟩ := h
    have hu := hr.units
    have hr2 : Room 2 _ := hr.mono (by decide)
    refine ⟨_, (pss_cons (ps_set (i := 3) scLi.nd rfl (.inr rfl) (pe_tup (pa_cons (pe_ix ix_tup (pv 0) pe_int (fun _ _ => rfl)) (pa_cons (pv 1) pa_nil))))
      (pss_cons (ps_if (pt_not (pt_val (pe_call GC hr2 (by rfl) Cs.m Cs.F.kp Cs.b .nil pass0 (pa_cons (pv 0) (pa_cons (pv 3) pa_nil))))) (pss_one (ps_ret (pe_cmpR (op_eqD hu) (pv 2) (pe_tup pa_nil) (nomark _)))) pss_nil)
      (pss_cons (ps_setLc (i := 4) (own := [("_law_duo", 5)]) (g := gName 5) (by rfl) scLi.nd rfl rfl (sw_true rfl rfl rfl (by decide +kernel)) (pi_tup (pv 2)) (blkOk_by (own := [("_law_duo", 5)]) (N := nLi) (sc := defScope (topS 52)) (by decide +kernel)) (fun _ _ _ _ _ => pg_name (i := 5) scLi.nd rfl (Or.inl rfl)) (fun _ _ _ _ _ => (pts_one (PW.pt (pw_and (pt_cmpR (r := rNeD K) (op_neD hu) (pv 5) (pv 3) (nomark _)) (pw_and1 (pt_not (pt_val (pe_call GD hr (by rfl) Ld.m Ld.F.kp Ld.b .nil pass0 (pa_cons (pv 0) (pa_cons (pv 2) (pa_cons (pv 5) pa_nil))))))))))) (fun _ _ _ _ _ => (pv 5)))
      (pss_one (ps_ret (pe_and (pe_cmpR (op_inTD hu) (pv 3) (pv 2) (by rfl)) (pe_one (pe_cmpR (op_eqD hr.units) (pv 4) (pe_lst pa_nil) (nomark _))))))))), ?_⟩
    obtain ⟨pw, qw, ws, rfl, hpw, hq0, hE⟩ := id pg
    refine ⟨.ref pw, rfl, pw, _, 1, .str g.asks, rfl, rfl, hpw, atI_nat (j := 1) rfl, .int p, rfl, (show 2 ≤ sizeLine by decide), fun ta na => ?_⟩
    have s1 := same_new (o := .tup [.str g.asks, .int p]) na
    have ea : (upd H ta (.tup [.str g.asks, .int p])) ta = some (.tup [.str g.asks, .int p]) := upd_same
    generalize upd H ta (.tup [.str g.asks, .int p]) = H1 at s1 ea ⊢
    have oka : okP g (g.asks, p) := ⟨mem_rows.mp G.asks, pb⟩
    have da : Dp K H1 (.ref ta) (dPr (g.asks, p)) := PrAt.dp ⟨ta, rfl, ea⟩
    have ga := good_shaped (okP_good G oka) (show 1 ≤ 64 by decide)
    have oks : ∀ s ∈ ps, goodD (dPr s) = true := fun s hs => okP_good G (okps s hs)
    refine ⟨.ref pw, rfl, .ref ta, rfl, .ref pw, .ref ta, g, (g.asks, p), rfl, pg.same s1, by have := G.few; omega, da, oka.1, fun H2 s2 => ⟨_, rfl, ?_⟩⟩
    have s12 := s1.trans s2
    have ev : lawP g p ps = if canB g g.asks p then decide ((g.asks, p) ∈ ps) && ledP g (g.asks, p) ps else decide (ps = []) := rfl
    cases zc : canB g g.asks p
    · rw [zc, if_neg Bool.false_ne_true] at ev
      rw [ev] at q
      refine iteT ⟨.ref q0, rfl, (show 0 ≤ sizeLine by decide), fun te ne => ?_⟩
      have s3 := same_new (o := .tup []) ne
      refine ⟨.tuple (ps.map dPr), .tuple [], .tup (tupS (s12.trans s3) hT) (dsKeep (s12.trans s3) hd), .tup (.inl (.inl upd_same)) .nil, (prs_shaped oks).2, rfl, ?_⟩
      have e : PyData.eqv (.tuple (ps.map dPr)) (.tuple []) = decide (ps = []) := by
        cases ps with
        | nil => rfl
        | cons s r => rw [decide_eq_false (List.cons_ne_nil _ _)]; rfl
      rw [e]
      exact q _ (s12.trans s3)
    · rw [zc, if_pos rfl] at ev
      rw [ev] at q
      refine iteF ?_
      dsimp only [tNext]
      refine asg_seq ?_
      refine lc_prs (K := K) (a := q0) (xs := xs) (ps := ps) (fun s => !decide (s = (g.asks, p)) && !decide (s ∈ lv g ps)) (tupS s12 hT) (dsKeep s12 hd) (by omega) (fun R r => ⟨_, rfl, r⟩) (fun v => rfl) (fun v => rfl) ?_ ?_
      · intro x s0 G1 R hs dp sm k
        refine ⟨x, rfl, .ref ta, rfl, dPr s0, dPr (g.asks, p), dp, dKeep (s2.trans sm) da, good_shaped (oks s0 hs) (show 1 ≤ 64 by decide), ga, _, rfl, ?_⟩
        rw [pr_eqv]
        cases z1 : decide (s0 = (g.asks, p))
        · rw [z1] at k
          refine iteT ⟨.ref pw, rfl, .ref q0, rfl, x, rfl, .ref pw, x, q0, g, xs, ps, s0, rfl, pg.same (s12.trans sm), G, tupS (s12.trans sm) hT, dsKeep (s12.trans sm) hd, few, okps, dp, okps s0 hs, fun G2 s3 => ⟨_, rfl, k G2 s3⟩⟩
        · rw [z1] at k
          exact iteF (k G1 (Same.refl G1))
      · intro D acc G1 nD sm eD hacc
        have s3 := s12.trans sm
        dsimp only [gName]
        refine ⟨.ref ta, rfl, .ref q0, rfl, dPr (g.asks, p), ps.map dPr, dKeep (s2.trans sm) da, .tup (tupS s3 hT) (dsKeep s3 hd), ga, (prs_shaped oks).2, (show 1 ≤ 60 by decide), _, rfl, ?_⟩
        rw [any_pr, Bool.bne_false]
        cases z1 : decide ((g.asks, p) ∈ ps)
        · rw [z1, Bool.false_and] at q
          exact iteF (q _ s3)
        · rw [z1, Bool.true_and] at q
          refine iteT ⟨.ref D, rfl, (show 0 ≤ sizeLine by decide), fun te ne => ?_⟩
          have s4 := same_new (o := .lst []) ne
          have okf : ∀ s ∈ ps.filter fun s => !decide (s = (g.asks, p)) && !decide (s ∈ lv g ps), goodD (dPr s) = true := fun s hs => oks s (List.mem_filter.mp hs).1
          refine ⟨_, .list [], dp_lst (s4 _ _ eD) (dsKeep (sm.trans s4) hacc), dp_lst upd_same .nil, (prs_shaped okf).1, rfl, ?_⟩
          rw [eqv_nil2]
          have e : ((ps.filter fun s => !decide (s = (g.asks, p)) && !decide (s ∈ lv g ps)).map dPr).isEmpty = ledP g (g.asks, p) ps := by
            unfold ledP
            generalize lv g ps = L
            clear q okf hacc few okps hd oks z1 ev
            induction ps with
            | nil => rfl
            | cons s r ih =>
              rw [List.filter_cons, List.all_cons]
              cases h1 : decide (s = (g.asks, p)) <;> cases h2 : decide (s ∈ L)
              · rfl
              · exact ih
              · exact ih
              · exact ih
          rw [e]
          exact q _ (s3.trans s4)
end
end Kn


namespace Kn
open PySem PySem.Spec PyProof.Rows L2
abbrev nAs : List Str := ["things"]
theorem scAs : FnScope nAs ["things"] (defScope (topS 8)) := ⟨rfl, rfl, rfl, by decide +kernel, rfl, by decide +kernel, by decide +kernel⟩
abbrev nMp : List Str := ["web", "marks", "plan"]
theorem scMp : FnScope nMp ["web", "marks", "plan"] (defScope (topS 30)) := ⟨rfl, rfl, rfl, by decide +kernel, rfl, by decide +kernel, by decide +kernel⟩
abbrev nKi : List Str := ["plan", "name", "_"]
theorem scKi : FnScope nKi ["plan"] (defScope (topS 31)) := ⟨rfl, rfl, rfl, by decide +kernel, rfl, by decide +kernel, by decide +kernel⟩
abbrev nNi : List Str := ["web", "plan", "kind", "_"]
theorem scNi : FnScope nNi ["web", "plan"] (defScope (topS 32)) := ⟨rfl, rfl, rfl, by decide +kernel, rfl, by decide +kernel, by decide +kernel⟩
abbrev nQi : List Str := ["web", "plan", "kind", "mark"]
theorem scQi : FnScope nQi ["web", "plan"] (defScope (topS 33)) := ⟨rfl, rfl, rfl, by decide +kernel, rfl, by decide +kernel, by decide +kernel⟩
abbrev nUi : List Str := ["web", "plan", "kind", "pair"]
abbrev nKo : List Str := ["web", "marks", "plan"]
abbrev nNk : List Str := ["web", "marks", "plan"]
abbrev nQk : List Str := ["web", "marks", "plan"]
abbrev nUo : List Str := ["web", "marks", "plan"]
/-! ### the parts of a plan -/
def kindsL (ps : List (Str × Int)) : List Str := ascS (ps.map (·.1))
def nearL (g : Pg) (ps : List (Str × Int)) : List Str := ascS ((lv g ps).map (·.1))
def quietL (g : Pg) (ps : List (Str × Int)) : List Str := ascS (((lv g ps).filter fun t => !canB g t.1 t.2).map (·.1))
def usesL (g : Pg) (ps : List (Str × Int)) : List Int := g.es.map fun e => (((ps.filter fun s => decide (s.1 = e.name)).length : Nat) : Int)
theorem fm_str (ps : List (Str × Int)) : ps.filterMap (fun s => some (V.str s.1)) = (ps.map (·.1)).map V.str := by
  rw [List.filterMap_eq_map', List.map_map]
  rfl
theorem fm_strif (c : Str × Int → Bool) : ∀ ps : List (Str × Int), ps.filterMap (fun s => if c s then some (V.str s.1) else none) = ((ps.filter c).map (·.1)).map V.str
  | [] => rfl
  | s :: r => by
    rw [List.filterMap_cons, List.filter_cons, fm_strif c r]
    cases c s <;> rfl
theorem pr_at {K : PySem.W.Frag} {H : Hp} {xs : List V} {ps : List (Str × Int)} {i : Nat} {x : V} {s : Str × Int} (hd : DpAll K H xs (ps.map dPr)) (hx : xs[i]? = some x) (hs : ps[i]? = some s) : ∃ b, x = .ref b ∧ SqT K H b [.str s.1, .int s.2] := by
  obtain ⟨d, hdi, dp⟩ := dsAt hd i x hx
  obtain ⟨s', hs', rfl⟩ := map_get hdi
  obtain rfl : s = s' := Option.some.inj (hs.symm.trans hs')
  exact pr_seq dp
theorem prs_at {H : Hp} {xs : List V} {ps : List (Str × Int)} {i : Nat} {x : V} {s : Str × Int} (hd : PrsAt H xs ps) (hx : xs[i]? = some x) (hs : ps[i]? = some s) : ∃ b, x = .ref b ∧ H b = some (.tup [.str s.1, .int s.2]) := by
  obtain ⟨s', hs', b, e, hb⟩ := hd.get hx
  obtain rfl : s = s' := Option.some.inj (hs.symm.trans hs')
  exact ⟨b, e, hb⟩
theorem dec_str (a b : Str) : decide (V.str a = V.str b) = decide (a = b) := by
  by_cases z : a = b
  · rw [decide_eq_true z, decide_eq_true (congrArg V.str z)]
  · rw [decide_eq_false z, decide_eq_false (fun y => z (V.str.inj y))]
theorem lv_len {g : Pg} (G : GW g) : ∀ ps : List (Str × Int), (lv g ps).length ≤ 5 * ps.length
  | [] => Nat.zero_le _
  | s :: r => by
    have ih := lv_len G r
    have e : lv g (s :: r) = lvOf g s ++ lv g r := List.flatMap_cons
    have l5 : (lvOf g s).length ≤ 5 := by
      unfold lvOf
      cases h : rowOf g s.1 with
      | none => exact Nat.zero_le _
      | some e =>
        have := G.rows e (row_is h).1
        rw [List.length_map]
        exact this
    rw [e, List.length_append, List.length_cons]
    omega
theorem lv_all {g : Pg} (G : GW g) {ps : List (Str × Int)} {t : Str × Int} (h : t ∈ lv g ps) : (rowOf g t.1).isSome = true := by
  obtain ⟨s, _, ht⟩ := List.mem_flatMap.mp h
  exact (lv_known G ht).1
def spAs (K : PySem.W.Frag) : Sp := fun vs H Q _ => ∃ (l : Addr) (xs : List Str), vs = [.ref l] ∧ SqL K H l (xs.map V.str) ∧ xs.length < 64 ∧ ∀ (p : Addr) (H' : Hp), Same H H' → H' p = some (.tup ((ascS xs).map V.str)) → Q (.ref p) H'
def spKi (K : PySem.W.Frag) : Sp := fun vs H Q _ => ∃ (q : Addr) (xs : List V) (ps : List (Str × Int)), vs = [.ref q] ∧ SqT K H q xs ∧ DpAll K H xs (ps.map dPr) ∧ ps.length ≤ 12 ∧ ∀ (p : Addr) (H' : Hp), Same H H' → H' p = some (.tup ((kindsL ps).map V.str)) → Q (.ref p) H'
/-- what is told of a web and a plan -/
structure InP (K : PySem.W.Frag) (out : Pg → List (Str × Int) → List V) (vs : List V) (H : Hp) (Q : VK) : Prop where
  ex : ∃ (w : V) (q : Addr) (g : Pg) (xs : List V) (ps : List (Str × Int)), vs = [w, .ref q] ∧ PgAt K H w g ∧ GW g ∧ SqT K H q xs ∧ DpAll K H xs (ps.map dPr) ∧ ps.length ≤ 12 ∧ (∀ s ∈ ps, okP g s) ∧
  ∀ (p : Addr) (H' : Hp), Same H H' → H' p = some (.tup (out g ps)) → Q (.ref p) H'
def spIn (K : PySem.W.Frag) (out : Pg → List (Str × Int) → List V) : Sp := fun vs H Q _ => InP K out vs H Q
abbrev outK (_ : Pg) (ps : List (Str × Int)) : List V := (kindsL ps).map V.str
abbrev outN (g : Pg) (ps : List (Str × Int)) : List V := (nearL g ps).map V.str
abbrev outQ (g : Pg) (ps : List (Str × Int)) : List V := (quietL g ps).map V.str
abbrev outU (g : Pg) (ps : List (Str × Int)) : List V := (usesL g ps).map V.int
section
variable {P : Program} {w : World} {K : PySem.W.Frag} {mg : Str → Option Value} {base : Heap}
theorem ok_as {f : Addr} {fd : FuncData} (F : Fun K "ascending" "ascending" (topS 8) f fd) (mt : mg "tuple" = none) (mo : mg "sorted" = none) (me : mg "set" = none) : FnOk P w K mg base CX0 1 f fd ["things"] (spAs K) := by
  refine F.ok scAs (fun vs H Q E h => ?_) (fun cdv A outer s H vs Q E hr h => ?_)
  · obtain ⟨l, xs, rfl, _⟩ := h
    rfl
  · obtain ⟨l, xs, rfl, hl, few, q⟩ := h
    refine ⟨_, pss_one (ps_ret (pe_callTy call_tuple_of (by rfl) mt boot_tuple (pa_cons (pe_callB (cr_sortedTx (by rfl)) (by rfl) mo (by decide +kernel) (pa_cons (pe_callTy (cr_setTx (by rfl)) (by rfl) me (by decide +kernel) (pa_cons (pv 0) pa_nil)) pa_nil)) pa_nil))), ?_⟩
    refine ⟨.ref l, rfl, l, xs, rfl, hl, by omega, fun p1 n1 => ?_⟩
    have s1 : Same H (upd H p1 (SetTx w p1 (gathered xs))) := same_new n1
    refine ⟨p1, gathered xs, rfl, upd_same, Nat.lt_of_le_of_lt (len_gathered xs) few, fun ys p2 pm so n2 => ?_⟩
    have s2 := s1.trans (same_new (o := .lst (ys.map V.str)) n2)
    refine ⟨p2, _, rfl, .inl ⟨.inl (.inl upd_same), fun p3 n3 => ?_⟩⟩
    have e := sortS_of pm (sorted_leS so)
    subst e
    exact q p3 _ (s2.trans (same_new n3)) upd_same
theorem ok_ki {f fA : Addr} {fd fdA : FuncData} (F : Fun K "kinds_in" "kinds_in" (topS 31) f fd) (As : Def K mg "ascending" 8 ["things"] fA fdA) (OA : FnOk P w K mg base CX0 1 fA fdA ["things"] (spAs K)) : FnOk P w K mg base CX0 2 f fd ["plan"] (spKi K) := by
  refine F.ok scKi (fun vs H Q E h => ?_) (fun cdv A outer s H vs Q E hr h => ?_)
  · obtain ⟨l, xs, ps, rfl, _⟩ := h
    rfl
  · obtain ⟨l, xs, ps, rfl, hT, hd, few, q⟩ := h
    have lx : xs.length = ps.length := by rw [dsLen hd, List.length_map]
    refine ⟨_, (pss_one (ps_ret (pe_call OA hr (by rfl) As.m As.F.kp As.b .nil pass0 (pa_cons (pe_lc (own := [("name", 1), ("_", 2)]) (g := gTup K 2 (gCons (gName 1) (gCons (gName 2) gNil))) (by rfl) scKi.nd (pi_tup (pv 0)) (blkOk_by (own := [("name", 1), ("_", 2)]) (N := nKi) (sc := defScope (topS 31)) (by decide +kernel)) (fun _ _ _ _ _ => (pg_tup (by rfl) (pgs_cons (pg_name (i := 1) scKi.nd rfl (Or.inl rfl)) (pgs_cons (pg_name (i := 2) scKi.nd rfl (Or.inl rfl)) pgs_nil)))) (fun _ _ _ _ _ => pts_nil) (fun _ _ _ _ _ => (pv 1))) pa_nil)))), ?_⟩
    refine ⟨.ref l, rfl, l, rfl, ⟨xs, hT⟩, fun D nD => ?_⟩
    refine lc_sel (walk_tup (K := K) (a := l) (xs := xs)) ps (fun s => some (.str s.1)) nD lx.symm (by omega) (fun G s => tupS s hT) ?_ ?_
    · intro i x s G N Y hx hs sm _ y
      obtain ⟨b, rfl, hb⟩ := pr_at hd hx hs
      refine ⟨b, _, rfl, tupS sm hb, rfl, _, _, rfl, _, _, rfl, rfl, rfl, ?_⟩
      dsimp only [tYes]
      exact iteT ⟨.str s.1, rfl, y _ G (Same.refl G) rfl⟩
    · intro G sm eD
      rw [fm_str] at eD
      exact ⟨D, ps.map (fun s : Str × Int => s.1), rfl, .inl (.inl eD), by rw [List.length_map]; omega, fun p H' s' hp => q p H' (sm.trans s') hp⟩
theorem ok_ni {f fA fL : Addr} {fd fdA fdL : FuncData} (F : Fun K "near_in" "near_in" (topS 32) f fd) (As : Def K mg "ascending" 8 ["things"] fA fdA) (OA : FnOk P w K mg base CX0 1 fA fdA ["things"] (spAs K))
    (Lv : Def K mg "leavings" 24 ["web", "pairs"] fL fdL) (OL : FnOk P w K mg base CX0 3 fL fdL ["web", "pairs"] (spLv K)) : FnOk P w K mg base CX0 4 f fd ["web", "plan"] (spIn K outN) := by
  refine F.ok scNi (fun vs H Q E h => ?_) (fun cdv A outer s H vs Q E hr h => ?_)
  · obtain ⟨w0, l, g, xs, ps, rfl, _⟩ := h
    rfl
  · obtain ⟨w0, q0, g, xs, ps, rfl, pg, gw, hT, hd, few, known, q⟩ := h
    have hr1 : Room 1 _ := hr.mono (by decide)
    refine ⟨_, (pss_one (ps_ret (pe_call OA hr1 (by rfl) As.m As.F.kp As.b .nil pass0 (pa_cons (pe_lc (own := [("kind", 2), ("_", 3)]) (g := gTup K 2 (gCons (gName 2) (gCons (gName 3) gNil))) (by rfl) scNi.nd (pi_list (pe_call OL (hr.mono (by decide)) (by rfl) Lv.m Lv.F.kp Lv.b .nil pass0 (pa_cons (pv 0) (pa_cons (pv 1) pa_nil)))) (blkOk_by (own := [("kind", 2), ("_", 3)]) (N := nNi) (sc := defScope (topS 32)) (by decide +kernel)) (fun _ _ _ _ _ => (pg_tup (by rfl) (pgs_cons (pg_name (i := 2) scNi.nd rfl (Or.inl rfl)) (pgs_cons (pg_name (i := 3) scNi.nd rfl (Or.inl rfl)) pgs_nil)))) (fun _ _ _ _ _ => pts_nil) (fun _ _ _ _ _ => (pv 2))) pa_nil)))), ?_⟩
    refine ⟨w0, rfl, .ref q0, rfl, w0, q0, g, xs, ps, rfl, pg, gw, hT, hd, by omega, (fun s hs => (known s hs).1), fun l ys H1 s1 el hys _ => ⟨l, rfl, ⟨ys, .inl (.inl el)⟩, fun D nD => ?_⟩⟩
    have ll := lv_len gw ps
    have ly := hys.len
    refine lc_sel (walk_list (K := K) (a := l) (xs := ys)) (lv g ps) (fun s => some (.str s.1)) nD ly.symm (by omega) (fun G s => .inl (.inl (s _ _ el))) ?_ ?_
    · intro i x s G N Y hx hs sm _ y
      obtain ⟨b, rfl, hb⟩ := prs_at hys hx hs
      refine ⟨b, _, rfl, .inl (.inl (sm _ _ hb)), rfl, _, _, rfl, _, _, rfl, rfl, rfl, ?_⟩
      dsimp only [tYes]
      exact iteT ⟨.str s.1, rfl, y _ G (Same.refl G) rfl⟩
    · intro G sm eD
      rw [fm_str] at eD
      exact ⟨D, (lv g ps).map (fun s : Str × Int => s.1), rfl, .inl (.inl eD), by rw [List.length_map]; omega, fun p H' s' hp => q p H' (s1.trans (sm.trans s')) hp⟩
theorem ok_qi {f fA fL fC : Addr} {fd fdA fdL fdC : FuncData} (F : Fun K "quiet_in" "quiet_in" (topS 33) f fd) (As : Def K mg "ascending" 8 ["things"] fA fdA) (OA : FnOk P w K mg base CX0 1 fA fdA ["things"] (spAs K))
    (Lv : Def K mg "leavings" 24 ["web", "pairs"] fL fdL) (OL : FnOk P w K mg base CX0 3 fL fdL ["web", "pairs"] (spLv K)) (Cs : Def K mg "can_send" 19 ["web", "kind", "mark"] fC fdC) (OC : FnOk P w K mg base CX0 2 fC fdC ["web", "kind", "mark"] (spCs K)) : FnOk P w K mg base CX0 4 f fd ["web", "plan"] (spIn K outQ) := by
  refine F.ok scQi (fun vs H Q E h => ?_) (fun cdv A outer s H vs Q E hr h => ?_)
  · obtain ⟨w0, l, g, xs, ps, rfl, _⟩ := h
    rfl
  · obtain ⟨w0, q0, g, xs, ps, rfl, pg, gw, hT, hd, few, known, q⟩ := h
    have hr1 : Room 1 _ := hr.mono (by decide)
    have hr2 : Room 2 _ := hr.mono (by decide)
    refine ⟨_, (pss_one (ps_ret (pe_call OA hr1 (by rfl) As.m As.F.kp As.b .nil pass0 (pa_cons (pe_lc (own := [("kind", 2), ("mark", 3)]) (g := gTup K 2 (gCons (gName 2) (gCons (gName 3) gNil))) (by rfl) scQi.nd (pi_list (pe_call OL (hr.mono (by decide)) (by rfl) Lv.m Lv.F.kp Lv.b .nil pass0 (pa_cons (pv 0) (pa_cons (pv 1) pa_nil)))) (blkOk_by (own := [("kind", 2), ("mark", 3)]) (N := nQi) (sc := defScope (topS 33)) (by decide +kernel)) (fun _ _ _ _ _ => (pg_tup (by rfl) (pgs_cons (pg_name (i := 2) scQi.nd rfl (Or.inl rfl)) (pgs_cons (pg_name (i := 3) scQi.nd rfl (Or.inl rfl)) pgs_nil)))) (fun _ _ _ _ _ => (pts_one (pt_not (pt_val (pe_call OC hr2 (by rfl) Cs.m Cs.F.kp Cs.b .nil pass0 (pa_cons (pv 0) (pa_cons (pv 2) (pa_cons (pv 3) pa_nil)))))))) (fun _ _ _ _ _ => (pv 2))) pa_nil)))), ?_⟩
    refine ⟨w0, rfl, .ref q0, rfl, w0, q0, g, xs, ps, rfl, pg, gw, hT, hd, by omega, (fun s hs => (known s hs).1), fun l ys H1 s1 el hys _ => ⟨l, rfl, ⟨ys, .inl (.inl el)⟩, fun D nD => ?_⟩⟩
    have ll := lv_len gw ps
    have ly := hys.len
    refine lc_sel (walk_list (K := K) (a := l) (xs := ys)) (lv g ps) (fun s => if !canB g s.1 s.2 then some (.str s.1) else none) nD ly.symm (by omega) (fun G s => .inl (.inl (s _ _ el))) ?_ ?_
    · intro i x s G N Y hx hs sm n y
      obtain ⟨b, rfl, hb⟩ := prs_at hys hx hs
      have kn := lv_all gw (List.mem_of_getElem? hs)
      refine ⟨b, _, rfl, .inl (.inl (sm _ _ hb)), rfl, _, _, rfl, _, _, rfl, rfl, rfl, ?_⟩
      refine ⟨w0, rfl, .str s.1, rfl, .int s.2, rfl, w0, g, s.1, s.2, rfl, (pg.same s1).same sm, kn, _, rfl, ?_⟩
      cases z : canB g s.1 s.2
      · refine iteT ⟨.str s.1, rfl, y _ G (Same.refl G) (by rw [z]; rfl)⟩
      · refine iteF (n G (Same.refl G) (by rw [z]; rfl))
    · intro G sm eD
      rw [fm_strif] at eD
      exact ⟨D, ((lv g ps).filter fun t : Str × Int => !canB g t.1 t.2).map (fun s : Str × Int => s.1), rfl, .inl (.inl eD), by rw [List.length_map]; have := List.length_filter_le (fun t : Str × Int => !canB g t.1 t.2) (lv g ps); omega, fun p H' s' hp => q p H' (s1.trans (sm.trans s')) hp⟩
end
end Kn


namespace Kn
open PySem PySem.Spec PyProof.Rows L2
abbrev nHe : List Str := ["_law_ask", "e", "_law_flags"]
/-! ### NotUsable -/
def initU : Stmt := (C8.clsBody (topS 5)).getD 0 (.Pass ⟨0, 0, 0, 0⟩)
theorem scInitU : FnScope nInit ["self", "word", "at"] (defScope initU) := ⟨rfl, rfl, rfl, by decide +kernel, rfl, by decide +kernel, by decide +kernel⟩
/-- what is known of the error classes: those names that are asked for, seen from NotUsable -/
structure Asked (K : PySem.W.Frag) (mg : Str → Option Value) (x : Str) (D : Addr) (b : Bool) : Prop where
  ex : ∃ C : Addr, mg x = some (.ref C) ∧ PySem.W.kitOne K (.ref D) (.ref C) = some b
structure ErrN (K : PySem.W.Frag) (mg : Str → Option Value) (D : Addr) : Prop where
  is : IsC K D
  xf : XfC K D
  noW : PySem.W.findIn K (.ref D) "word" = some none
  noA : PySem.W.findIn K (.ref D) "at" = some none
  paper : Asked K mg "PaperError" D false
  web : Asked K mg "WebError" D true
  live : Asked K mg "LiveError" D false
  text : Asked K mg "TextError" D false
  use : Asked K mg "NotUsable" D true
  missed : Asked K mg "Missed" D false
structure ErrU (K : PySem.W.Frag) (mg : Str → Option Value) (D fI : Addr) (fdI : FuncData) : Prop where
  noW : PySem.W.findIn K (.ref D) "word" = some none
  noA : PySem.W.findIn K (.ref D) "at" = some none
  x : OexC K D
  F : Fun K "__init__" "NotUsable.__init__" initU fI fdI
  b : Binds K fdI ["self", "word", "at"] []
  i : PySem.W.findIn K (.ref D) "__init__" = some (some (.ref fI))
  t : PySem.W.typeIn K (.ref fI) = some (.type "function")
  m : mg "NotUsable" = some (.ref D)
abbrev xdU (x : Str) : HO := .xd [("at", .int (-1)), ("word", .str x)]
/-- NotUsable of this word is raised -/
def NoUse (D : Addr) (x : Str) (H : Hp) (E : XK) : Prop := ∀ (dd : Addr) (H' : Hp), Same H H' → H' dd = some (xdU x) → E (.ref D) (some dd) H'
def spMp (K : PySem.W.Frag) (D : Addr) : Sp := fun vs H Q E => ∃ (w v : V) (g : Pg) (p : Int) (d : PyData), vs = [w, .int p, v] ∧ PgAt K H w g ∧ GW g ∧ 0 ≤ p ∧ p.natAbs < 1000 ∧ Dp K H v d ∧ Nice d ∧
  (planD g p d = true → ∀ H', Same H H' → Q .non H') ∧ (planD g p d = false → NoUse D "plan" H E)
structure OfP (K : PySem.W.Frag) (D : Addr) (out : Pg → List (Str × Int) → List V) (vs : List V) (H : Hp) (Q : VK) (E : XK) : Prop where
  ex : ∃ (w v : V) (g : Pg) (p : Int) (d : PyData), vs = [w, .int p, v] ∧ PgAt K H w g ∧ GW g ∧ 0 ≤ p ∧ p.natAbs < 900 ∧ Dp K H v d ∧ Nice d ∧
  (∀ ps : List (Str × Int), d = .tuple (ps.map dPr) → ps.length ≤ 12) ∧
  (∀ ps : List (Str × Int), d = .tuple (ps.map dPr) → planD g p d = true → ∀ r H', Same H H' → H' r = some (.tup (out g ps)) → Q (.ref r) H') ∧ (planD g p d = false → NoUse D "plan" H E)
def spOf (K : PySem.W.Frag) (D : Addr) (out : Pg → List (Str × Int) → List V) : Sp := fun vs H Q E => OfP K D out vs H Q E
theorem plan_prs {g : Pg} {p : Int} {d : PyData} (pb : p.natAbs < 900) (h : planD g p d = true) : ∃ ps : List (Str × Int), d = .tuple (ps.map dPr) ∧ ∀ s ∈ ps, okP g s := by
  match d, h with
  | .tuple ds, h =>
    have h : ((List.range ds.length).all (goodAt g p ds) && (ledP g (g.asks, p) (ds.filterMap toPr) && firstP g p (ds.filterMap toPr))) = true := h
    rw [Bool.and_eq_true] at h
    have z := List.all_eq_true.mp h.1
    have ok := all_ok (g := g) (p := p) (ds := ds) fun k hk => z k (List.mem_range.mpr hk)
    obtain ⟨a, b⟩ := prs_of ok
    refine ⟨_, congrArg PyData.tuple a, fun s hs => ⟨b s hs, ?_⟩⟩
    have m : dPr s ∈ ds := by
      rw [a]
      exact List.mem_map.mpr ⟨s, hs, rfl⟩
    obtain ⟨s', e', _, _, lo, hi, _⟩ := vp_pr (ok _ m)
    have es : s = s' := Option.some.inj (show toPr (dPr s) = some s' from e')
    subst es
    omega
section
variable {P : Program} {w : World} {K : PySem.W.Frag} {mg : Str → Option Value} {base : Heap}
theorem ok_initU {f D : Addr} {fd : FuncData} (T : ErrU K mg D f fd) : FnOk P w K mg base CX0 1 f fd ["self", "word", "at"] (spInit K D) := by
  refine T.F.ok scInitU (fun vs H Q E h => ?_) (fun cdv A outer s H vs Q E hr h => ?_)
  · obtain ⟨a, x, y, rfl, _⟩ := h
    rfl
  · obtain ⟨a, x, y, rfl, ha, q⟩ := h
    refine ⟨_, pss_cons (ps_ost (pv 0) (pv 1)) (pss_one (ps_ost (pv 0) (pv 2))), ?_⟩
    refine ⟨x, rfl, .ref a, rfl, a, D, rfl, T.x, T.noW, .inl ⟨ha, fun dx nd ne => ?_⟩⟩
    refine ⟨y, rfl, .ref a, rfl, a, D, rfl, T.x, T.noA, .inr ⟨dx, [("word", x)], upd_same, (by rw [upd_ne ne, upd_same]), (show 1 ≤ 900 by decide), q dx nd ne⟩⟩
theorem raisesU {D : Addr} {tt : TE} {σ : L2.St} {H G : Hp} {E : XK} {x : Str} (hv : ∀ R : VK, R (.int (-1)) G → tt σ G R) (sm : Same H G) (q : NoUse D x H E) :
    tMkO D (spInit K D) [] (tCons (tC (.str x)) (tCons tt tNil)) σ G fun c d H' => E c d H' := by
  refine hv _ ⟨(show 2 ≤ 1000 by decide), fun a ha => ⟨a, .str x, _, rfl, upd_same, fun dx nd ne => ⟨rfl, dx, _, ?_, upd_same, ?_, ?_⟩⟩⟩
  · rw [upd_ne ne.symm, upd_same]
  · rw [upd_ne ne] at nd
    exact nd
  · rw [upd_ne ne] at nd
    show E _ _ _
    rw [made_raise ha ne]
    exact q dx _ (putS sm (sm.free nd)) upd_same
theorem ok_mp {f fM fP fI D : Addr} {fd fdM fdP fdI : FuncData} (F : Fun K "check_made_plan" "check_made_plan" (topS 30) f fd) (T : ErrU K mg D fI fdI)
    (Cm : Def K mg "check_marks" 21 ["marks"] fM fdM) (OM : FnOk P w K mg base CX0 3 fM fdM ["marks"] spCm)
    (Ip : Def K mg "is_plan_of" 29 ["web", "marks", "thing"] fP fdP) (OI : FnOk P w K mg base CX0 6 fP fdP ["web", "marks", "thing"] (spIp K)) :
    FnOk P w K mg base (L2.CX P w) 7 f fd ["web", "marks", "plan"] (spMp K D) := by
  have GI : FnOk P w K mg base CX0 1 fI fdI ["self", "word", "at"] (spInit K D) := ok_initU T
  refine F.okX scMp (fun vs H Q E h => ?_) (fun cdv A outer s H vs Q E hr h => ?_)
  · obtain ⟨w0, v, g, p, d, rfl, _⟩ := h
    rfl
  · obtain ⟨w0, v, g, p, d, rfl, pg, gw, p0, pb, hd, ni, qy, qn⟩ := h
    have hr1 : Room 1 _ := hr.mono (by decide)
    have hr3 : Room 3 _ := hr.mono (by decide)
    refine ⟨_, (pss_cons (ps_expr (pe_call OM hr3 (by rfl) Cm.m Cm.F.kp Cm.b .nil pass0 (pa_cons (pv 1) pa_nil)))
      (pss_one (ps_if (pt_not (pt_val (pe_call OI (hr.mono (by decide)) (by rfl) Ip.m Ip.F.kp Ip.b .nil pass0 (pa_cons (pv 0) (pa_cons (pv 1) (pa_cons (pv 2) pa_nil)))))) (pss_one (ps_raise rfl (takes_of rfl rfl rfl rfl) (pmk_oex T.x T.i T.t GI (hr.mono (by decide)) T.b .nil pass0 rfl T.m (pa_cons pe_str (pa_cons (pe_un un_neg pe_int) pa_nil))))) pss_nil))), ?_⟩
    refine ⟨.int p, rfl, p, rfl, p0, w0, rfl, .int p, rfl, v, rfl, w0, v, g, p, d, rfl, pg, gw, pb, hd, ni, fun H1 s1 => ⟨_, rfl, ?_⟩⟩
    cases z : planD g p d
    · exact iteT (raisesU (fun R r => ⟨1, rfl, r⟩) s1 (qn z))
    · exact iteF (qy z H1 s1)
end
end Kn


namespace Kn
open PySem PySem.Spec PyProof.Rows L2
/-! ### written data -/
def Mk (K : PySem.W.Frag) (σ : L2.St) (H0 : Hp) (te : TE) (d : PyData) : Prop := ∀ (H : Hp) (R : VK), Same H0 H → (∀ v H', Same H H' → Dp K H' v d → R v H') → te σ H R
def Mks (K : PySem.W.Frag) (σ : L2.St) (H0 : Hp) (ta : TA) (ds : List PyData) : Prop := ∀ (H : Hp) (R : List V → Hp → Prop), Same H0 H → (∀ vs H', Same H H' → DpAll K H' vs ds → R vs H') → ta σ H R
section
variable {K : PySem.W.Frag} {σ : L2.St} {H0 : Hp}
theorem mk_str {s : Str} : Mk K σ H0 (tC (.str s)) (.str s) := fun H R _ k => k _ H (Same.refl H) (.str s)
theorem mk_int {n : Int} : Mk K σ H0 (tC (.int n)) (.int n) := fun H R _ k => k _ H (Same.refl H) (.int n)
theorem mk_non : Mk K σ H0 (tC .non) .none := fun H R _ k => k _ H (Same.refl H) .non
theorem mk_bl {b : Bool} : Mk K σ H0 (tC (.bl b)) (.bool b) := fun H R _ k => k _ H (Same.refl H) (.bl b)
theorem mk_var {i : Nat} {v : V} {d : PyData} (e : σ[i]? = some (some v)) (h : Dp K H0 v d) : Mk K σ H0 (tVar i) d := fun H R s k => ⟨v, e, k v H (Same.refl H) (dKeep s h)⟩
theorem mk_ix {i j : Nat} {p : Addr} {xs : List V} {v : V} {d : PyData} (e : σ[i]? = some (some (.ref p))) (hT : SqT K H0 p xs) (hj : xs[j]? = some v) (h : Dp K H0 v d) : Mk K σ H0 (tOp (rIxT K) (tVar i) (tC (.int (j : Nat)))) d :=
  fun H R s k => ⟨.ref p, e, p, xs, (j : Nat), v, rfl, rfl, tupS s hT, atI_nat hj, k v H (Same.refl H) (dKeep s h)⟩
theorem mks_nil : Mks K σ H0 tNil [] := fun H R _ k => k [] H (Same.refl H) .nil
theorem mks_cons {te : TE} {ta : TA} {d : PyData} {ds : List PyData} (h1 : Mk K σ H0 te d) (h2 : Mks K σ H0 ta ds) : Mks K σ H0 (tCons te ta) (d :: ds) := fun H R s k =>
  h1 H _ s fun v H' s' dv => h2 H' _ (s.trans s') fun vs H2 s2 dvs => k (v :: vs) H2 (s'.trans s2) (.cons (dKeep s2 dv) dvs)
theorem mk_tup {ta : TA} {ds : List PyData} (few : ds.length ≤ 100) (h : Mks K σ H0 ta ds) : Mk K σ H0 (tTup ta) (.tuple ds) := fun H R s k =>
  h H _ s fun vs H' s' dvs => ⟨by rw [dsLen dvs]; exact Nat.le_trans few (by decide), fun p np => k _ _ (s'.trans (same_new np)) (.tup (.inl (.inl upd_same)) (dsKeep (same_new np) dvs))⟩
theorem mk_lst {ta : TA} {ds : List PyData} (few : ds.length ≤ 100) (h : Mks K σ H0 ta ds) : Mk K σ H0 (tLst ta) (.list ds) := fun H R s k =>
  h H _ s fun vs H' s' dvs => ⟨by rw [dsLen dvs]; exact Nat.le_trans few (by decide), fun p np => k _ _ (s'.trans (same_new np)) (dp_lst upd_same (dsKeep (same_new np) dvs))⟩
/-- a new list, tracked -/
theorem mk_new {ta : TA} {ds : List PyData} {H : Hp} {R : VK} (few : ds.length ≤ 100) (h : Mks K σ H0 ta ds) (s : Same H0 H) (k : ∀ l vs H', Same H H' → H l = none → H' l = some (.lst vs) → DpAll K H' vs ds → R (.ref l) H') : tLst ta σ H R :=
  h H _ s fun vs H' s' dvs => ⟨by rw [dsLen dvs]; exact Nat.le_trans few (by decide), fun p np => k p vs _ (s'.trans (same_new np)) (s'.free np) upd_same (dsKeep (same_new np) dvs)⟩
/-- a list and a new one -/
theorem mk_cat {ta : TA} {i : Nat} {l : Addr} {ys : List V} {ds es : List PyData} {H : Hp} {R : VK} (few : ds.length + es.length ≤ 1000) (f1 : es.length ≤ 100) (e : σ[i]? = some (some (.ref l))) (h : Mks K σ H ta es) (el : H l = some (.lst ys)) (dy : DpAll K H ys ds)
    (k : ∀ l2 vs H', Same H H' → H l2 = none → H' l2 = some (.lst vs) → DpAll K H' vs (ds ++ es) → R (.ref l2) H') : tOp rCat (tVar i) (tLst ta) σ H R :=
  ⟨.ref l, e, mk_new f1 h (Same.refl H) fun l1 vs H1 s1 _ e1 dv => ⟨l, l1, ys, vs, rfl, rfl, s1 _ _ el, e1, by rw [dsLen dv, dsLen dy]; exact Nat.le_trans few (by decide), fun l2 n2 => k l2 _ _ (s1.trans (same_new n2)) (s1.free n2) upd_same (dsKeep (same_new n2) (dsApp (dsKeep s1 dy) dv))⟩⟩
end
theorem row_self {g : Pg} (G : GW g) {e : Ent} (h : e ∈ g.es) : rowOf g e.name = some e := by
  have nd := G.nd
  unfold rowOf
  generalize g.es = es at h nd
  clear G
  induction es with
  | nil => cases h
  | cons o r ih =>
    rw [List.map_cons, List.nodup_cons] at nd
    rw [List.find?_cons]
    rcases List.mem_cons.mp h with rfl | h
    · rw [decide_eq_true rfl]
    · have ne : ¬ o.name = e.name := fun z => nd.1 (z ▸ List.mem_map.mpr ⟨e, h, rfl⟩)
      rw [decide_eq_false ne]
      exact ih h nd.2
theorem can_self {g : Pg} (G : GW g) {e : Ent} (h : e ∈ g.es) (m : Int) : canB g e.name m = (!e.has && decide (e.fee ≤ m)) := by
  unfold canB
  rw [row_self G h]
theorem name_len {x : Str} (h : nameB (.str x) = true) : x.length ≤ 8 := by
  have h : (decide (1 ≤ x.length) && decide (x.length ≤ 8) && lowB x) = true := h
  rw [Bool.and_eq_true, Bool.and_eq_true] at h
  exact of_decide_eq_true h.1.2
theorem int_good {m : Int} (b : m.natAbs < 1000) : goodD (.int m) = true := decide_eq_true (Nat.lt_of_lt_of_le b (by decide))
end Kn


/-! Kn: set(a dict whose keys are tuples). -/
namespace Kn
open PySem PySem.Spec PyProof.Rows L2
section
variable {P : Program} {w : World} {A : Around} {E : Value → Shared → Prop} {s : Shared} {a : Addr} {C : Nat}
theorem relaid_bare {t : SetTable} {want N : Nat} (hw : SetTable.sizeAbove want - 1 = N) :
    t.relaid #[] want = some ({ mask := N, place := #[], dummies := #[], finger := t.finger, led := t.led, moves := t.movedTo N, plain := t.plain }, #[]) := by
  unfold SetTable.relaid SetTable.laid
  rw [hw]
  have e : SetTable.layClean N #[] = some (Array.replicate (N + 1) none) := rfl
  rw [e]
  have z : ((List.range (N + 1)).filterMap fun j => ((Array.replicate (N + 1) (none : Option Nat)).getD j none).map (j, ·)) = [] :=
    List.filterMap_eq_nil_iff.mpr fun j hj => by
      have lj := List.mem_range.mp hj
      rw [Array.getD_eq_getD_getElem?, Array.getElem?_replicate, if_pos lj]
      rfl
  show some (_, _) = some _
  rw [z]
  rfl
/-- room in a fresh set -/
theorem lay_bare (T : KSetN w 64 s.heap a []) {want N : Nat} (hw : SetTable.sizeAbove want - 1 = N) (hN : MaskX N) (h128 : SetTable.sizeAbove want ≤ 128) (hC : N = 15 → C ≤ 8) {Q : Unit → Shared → Prop}
    (q : ∀ h', Heap.SameBut a s.heap h' → KSetN w C h' a [] → Q () { s with heap := h' }) : wpAny (model P w) A (setRelay a want) Q E s := by
  obtain ⟨o, es, ep, t, ho, hx, hd, T⟩ := T.ex
  have e0 : es = #[] := by
    have z := T.rows
    rw [List.map_nil] at z
    exact Array.toList_eq_nil_iff.mp z
  have fits := T.fits
  subst e0
  rw [setRelay_eq]
  refine wpAny_bind (wpAny_setState_of ho hd fits ?_)
  dsimp only
  refine wp_if_neg (by rw [sizeLine_eq]; omega) ?_
  try refine wpAny_bind (wpAny_pure ?_)
  rw [show (Array.map (fun (e : Int × Value) => e.1) #[]) = #[] by simp, relaid_bare hw]
  dsimp only
  refine wpAny_bind (wp_if_neg (by simp) ?_)
  try refine wpAny_bind (wpAny_pure ?_)
  refine wpAny_pure ?_
  dsimp only
  refine wpAny_storeSet_of ho hd ?_ (by simp)
  have pos : 0 < N := by
    rcases hN with (z | z | z) | z <;> omega
  refine q _ (Heap.SameBut.update ..) ⟨_, _, _, _, store_at ho hd, ⟨hx.1, hx.2.1, hx.2.2⟩, rfl, ⟨rfl, ⟨List.Pairwise.nil, rfl, rfl, hN, fun x hx => (by cases hx), fun i h j hi => (by simp at hi)⟩, T.led, by show 0 * 5 < N * 3; omega, List.nodup_nil, by show 0 < 64; decide, hC⟩⟩
theorem room_no {t : SetTable} {n : Nat} (f : t.fill = 0) (m : t.mask = 7) (h : n < 5) : t.roomFor n = none := by
  unfold SetTable.roomFor
  rw [f, m, if_neg (by omega)]
theorem room_yes {t : SetTable} {n : Nat} (f : t.fill = 0) (m : t.mask = 7) (p : t.place.size = 0) (h : 5 ≤ n) : t.roomFor n = some (n * 2) := by
  unfold SetTable.roomFor
  rw [f, m, p, if_pos (by omega), Nat.zero_add]
theorem room_fresh (n : Nat) (hn : n ≤ 12) (at0 : s.heap.get? a = some (setObj0 w)) {Q : Unit → Shared → Prop} (q : ∀ h', Heap.SameBut a s.heap h' → KSetN w n h' a [] → Q () { s with heap := h' }) :
    wpAny (model P w) A (setRoomFor a n) Q E s := by
  have K := key_fresh (w := w) at0
  obtain ⟨o, es, ep, t, ho, hx, hd, T⟩ := id K.ex
  cases at0.symm.trans ho
  cases hd
  unfold setRoomFor
  refine wpAny_bind (wpAny_setState_of ho rfl T.fits ?_)
  dsimp only
  by_cases five : n < 5
  · rw [room_no rfl rfl five]
    refine wpAny_pure (q s.heap (Heap.SameBut.refl a s.heap) ⟨_, _, _, _, ho, hx, rfl, ⟨T.rows, T.ok, T.led, T.air, T.nd, T.few, fun e => by cases e⟩⟩)
  · rw [room_yes rfl rfl rfl (by omega)]
    by_cases eight : n < 8
    · have e : SetTable.sizeAbove (n * 2) = 16 := by
        have : n = 5 ∨ n = 6 ∨ n = 7 := by omega
        rcases this with rfl | rfl | rfl <;> decide +kernel
      exact lay_bare (C := n) K (N := 15) (by rw [e]) (.inr rfl) (by rw [e]; decide) (fun _ => by omega) q
    · have e : SetTable.sizeAbove (n * 2) = 32 := by
        have : n = 8 ∨ n = 9 ∨ n = 10 ∨ n = 11 ∨ n = 12 := by omega
        rcases this with rfl | rfl | rfl | rfl | rfl <;> decide +kernel
      exact lay_bare (C := n) K (N := 31) (by rw [e]) (.inl (.inr (.inl rfl))) (by rw [e]; decide) (fun z => by cases z) q
/-- what such a dict holds -/
structure RowsAt (w : World) (es : Array DictEntry) (ms : List Mem) : Prop where
  len : es.size = ms.length
  at_ : ∀ (i : Nat) (m : Mem), ms[i]? = some m → ∃ v, es[i]? = some ⟨hk w m, .ref m.1, v⟩
/-- the loop of set.__init__ over the keys of a dict -/
theorem dict_loop {d : Addr} {od : Obj} {es : Array DictEntry} {ep : Nat} {ms : List Mem} (hod : s.heap.get? d = some od) (hdd : od.data = .dict es ep) (R : RowsAt w es ms) (keys : ∀ m ∈ ms, KeyAt s.heap m) (hda : d ≠ a) (hn : ms.length ≤ 12) (hu : A.units + 8 < cLine)
    (K : KSetN w ms.length s.heap a []) {Q : Unit → Shared → Prop} (q : ∀ h' M, Heap.SameBut a s.heap h' → KSetN w ms.length h' a M → Of ms M → Q () { s with heap := h' }) {nm : String} :
    wpAny (model P w) A (forIn [:es.size] PUnit.unit fun i (_ : PUnit) => (do
          let l' ← dictEntries d
          match l'[i]? with
            | some e => do
              let _ ← holding [e.key] (setAddHashed a e.key e.hash)
              let ep' ← dictEpoch d
              if (ep' != ep) = true then do
                  (unsupported nm : Sem PUnit)
                  pure (ForInStep.yield PUnit.unit)
                else pure (ForInStep.yield PUnit.unit)
            | _ => do
              (unsupported "internal:set-from-dict" : Sem PUnit)
              pure (ForInStep.yield PUnit.unit) : Sem (ForInStep PUnit))) (fun _ s' => Q () s') E s := by
  rw [Std.Legacy.Range.forIn_eq_forIn_range']
  simp only [Std.Legacy.Range.size, Nat.sub_zero, Nat.add_sub_cancel, Nat.div_one]
  refine wpAny_forIn_list _ (fun rest _ s' => ∃ h' i M, s' = { s with heap := h' } ∧ rest = List.range' i (es.size - i) ∧ i ≤ es.size ∧ Heap.SameBut a s.heap h' ∧ KSetN w ms.length h' a M ∧ Of (ms.take i) M ∧ ∀ m ∈ ms, KeyAt h' m) _ ?_ ?_ _ _
    ⟨s.heap, 0, [], rfl, by simp, Nat.zero_le _, Heap.SameBut.refl _ _, K, by rw [List.take_zero]; exact Of.nil, keys⟩
  · rintro x rest b s' ⟨h', i, M, rfl, hr, hi, sb, T, g, ks⟩
    have lt : i < es.size := by
      rcases Nat.lt_or_ge i es.size with z | z
      · exact z
      · rw [Nat.sub_eq_zero_of_le z] at hr
        simp at hr
    obtain ⟨rfl, er⟩ : x = i ∧ rest = List.range' (i + 1) (es.size - (i + 1)) := by
      rw [show es.size - i = (es.size - (i + 1)) + 1 by omega, List.range'_succ] at hr
      injection hr with z1 z2
      exact ⟨z1, z2⟩
    have hod' : h'.get? d = some od := (sb.2 d hda).trans hod
    refine wpAny_bind (wpAny_dictEntries hod' hdd ?_)
    obtain ⟨m, hm⟩ : ∃ m, ms[x]? = some m := ⟨ms[x]'(by rw [← R.len]; exact lt), List.getElem?_eq_getElem _⟩
    obtain ⟨v, ev⟩ := R.at_ x m hm
    rw [ev]
    dsimp only
    have mM := List.mem_of_getElem? hm
    have lg := g.len
    have l2 : (ms.take x).length ≤ x := by rw [List.length_take]; omega
    have lm := R.len
    refine wpAny_bind (wpAny_holding (set_add (s := { s with heap := h' }) T (fun y hy => ks y (List.mem_of_mem_take (g.sub y hy))) (ks m mM) hu (by omega) (by omega) fun b' h2 M2 sb2 T2 c1 c2 _ => ?_))
    have tk : ms.take x ++ [m] = ms.take (x + 1) := by rw [List.take_add_one, hm]; rfl
    have g2 : Of (ms.take (x + 1)) M2 := by
      rw [← tk]
      rcases Classical.em (m.2 ∈ M.map (·.2)) with c | c
      · rw [c1 c]
        exact g.old c
      · exact g.new (c2 c)
    have hod2 : h2.get? d = some od := (sb2.2 d hda).trans hod'
    obtain ⟨oA, esA, epA, tA, hoA, _, hdA, _⟩ := T.ex
    refine wpAny_bind (wpAny_dictEpoch hod2 hdd ?_)
    rw [if_neg (by simp)]
    exact wpAny_pure ⟨h2, x + 1, M2, rfl, er, lt, sb.trans sb2, T2, g2, fun y hy => (ks y hy).same hoA hdA sb2⟩
  · rintro b s' ⟨h', i, M, rfl, hr, hi, sb, T, g, ks⟩
    have e : i = es.size := by
      rcases Nat.lt_or_ge i es.size with z | z
      · rw [show es.size - i = (es.size - (i + 1)) + 1 by omega, List.range'_succ] at hr
        exact nomatch hr
      · exact Nat.le_antisymm hi z
    rw [e, R.len, List.take_length] at g
    exact q h' M sb T g
/-- set(d) of a dict of keys -/
theorem key_set_dict {d : Addr} {od : Obj} {es : Array DictEntry} {ep : Nat} (ms : List Mem) {Q : Value → Shared → Prop} (hod : s.heap.get? d = some od) (hcl : od.ExactDict) (hdd : od.data = .dict es ep) (ns : (d == sysModules) = false) (R : RowsAt w es ms) (keys : ∀ m ∈ ms, KeyAt s.heap m) (hn : ms.length ≤ 12) (hu : A.units + 32 < cLine)
    (q : ∀ (h' : Heap) (M : List Mem), KSet w h' s.heap.objs.size M → Of ms M → (∀ b o, s.heap.get? b = some o → h'.get? b = some o) → Q (.ref s.heap.objs.size) { s with heap := h' }) :
    wpAny (model P w) A (call (.type "set") [.ref d]) Q E s := by
  obtain ⟨cl, tl, hmro⟩ := PySem.F.called_set.mro
  have k1 := PySem.F.called_set.made
  have k2 := PySem.F.called_set.sub
  have k3 := PySem.F.called_set.notType
  have k4 := PySem.F.called_set.canCreate
  have k5 := PySem.F.typeCall_set_1 (.ref d)
  refine wpAny_call (codeAny_of_tree ?_)
  show wpAny _ _ (callAny (.type "set") _) _ _ _
  refine wpAny_pure ⟨Code.quiet_builtin _ (by decide +kernel), codeAny_builtin PySem.F.entry_type_call ?_⟩
  rw [Around.under_plain (weight_type_call_type "set" [.ref d] []) rfl]
  repeat (any_goals (first | assumption | wp_step))
  refine codeAny_mono (code_set_led1 (.ref d) (E := E) (Q₁ := fun v s1 => v = .ref s.heap.objs.size ∧ s1 = { s with heap := s.heap.push (setObj0 w) }) ⟨rfl, rfl⟩) fun r s1 hr => ?_
  rcases r with e | fl
  · exact hr
  cases fl with
  | brk => exact hr.elim
  | cont => exact hr.elim
  | next => exact hr.elim
  | ret v =>
    obtain ⟨rfl, rfl⟩ := hr
    have at0 : (s.heap.push (setObj0 w)).get? s.heap.objs.size = some (setObj0 w) := Heap.get?_push_size _ rfl
    have ty0 : Shared.TypeIs { s with heap := s.heap.push (setObj0 w) } (.ref s.heap.objs.size) "set" := ⟨_, at0, rfl⟩
    have k6 := PySem.F.called_set.init.lookup
    have k7 := PySem.F.called_set.init.bind (.ref s.heap.objs.size)
    repeat (any_goals (first | assumption | wp_step))
    refine codeAny_mono (codeAny_call_builtin (R := wants (fun r s2 => r = .none ∧ ∃ h' M, s2 = { s with heap := h' } ∧ KSet w h' s.heap.objs.size M ∧ Of ms M ∧ ∀ b o, s.heap.get? b = some o → h'.get? b = some o) E)
      PySem.F.called_set.init.plain PySem.F.entry_set_init (check_set_init_1 ty0 ?_)) fun r2 s2 hr2 => ?_
    · have ho' : (s.heap.push (setObj0 w)).get? d = some od := Heap.get?_push_of_some _ hod
      have td : Shared.TypeIs { s with heap := s.heap.push (setObj0 w) } (.ref d) "dict" := ⟨_, ho', hcl.1⟩
      have j1 := PySem.F.sub_dict_set
      have j2 := PySem.F.sub_dict_frozenset
      have j3 : (Value.type "dict" == Value.type "dict") = true := by decide
      unfold Builtin.«set.__init__» noKeywords Builtin.Frozenset.updateFrom
      generalize hRF : setRoomFor = RF
      wp_walk
      rw [hdd]
      dsimp only
      refine wpAny_pure ?_
      have lS : d < s.heap.objs.size := Heap.lt_size hod
      have nd : d ≠ s.heap.objs.size := Nat.ne_of_lt lS
      refine wpAny_bind (wpAny_dictEntries ho' hdd ?_)
      subst hRF
      refine wpAny_bind (room_fresh (s := { s with heap := s.heap.push (setObj0 w) }) es.size (by rw [R.len]; exact hn) at0 fun h1 sb1 K1 => ?_)
      have hod1 : h1.get? d = some od := (sb1.2 d nd).trans ho'
      have ks1 : ∀ m ∈ ms, KeyAt h1 m := fun m hm => ((keys m hm).move fun b o e => Heap.get?_push_of_some _ e).same at0 rfl sb1
      refine wpAny_bind (wpAny_dictEntries hod1 hdd ?_)
      have fin : ∀ h' M, Heap.SameBut s.heap.objs.size h1 h' → KSetN w ms.length h' s.heap.objs.size M → Of ms M → (KSet w h' s.heap.objs.size M ∧ Of ms M ∧ ∀ b o, s.heap.get? b = some o → h'.get? b = some o) := fun h' M sb2 T g =>
        ⟨⟨_, T⟩, g, fun b o e => by
          have n : b ≠ s.heap.objs.size := Nat.ne_of_lt (Heap.lt_size e)
          rw [sb2.2 b n, sb1.2 b n]
          exact Heap.get?_push_of_some _ e⟩
      refine wpAny_bind (wpAny_mono (dict_loop (A := A.in1.in1) (s := { s with heap := h1 }) (Q := fun _ s' => ∃ h' M, s' = { s with heap := h' } ∧ KSet w h' s.heap.objs.size M ∧ Of ms M ∧ ∀ b o, s.heap.get? b = some o → h'.get? b = some o) hod1 hdd R ks1 nd hn ?hroom (by rw [← R.len]; exact K1) (fun h' M sb2 T g => ⟨h', M, rfl, fin h' M sb2 T g⟩)) ?_ (fun _ _ e => e))
      case hroom =>
        simp only [Around.in1_units]
        omega
      rintro _ s' ⟨h', M, rfl, f1, f2, f3⟩
      refine wpAny_pure ?_
      show wpAny _ _ (ret Value.none) _ _ _
      exact wpAny_pure ⟨rfl, h', M, rfl, f1, f2, f3⟩
    · rcases r2 with e | fl2
      · exact hr2
      cases fl2 with
      | brk => exact hr2.elim
      | cont => exact hr2.elim
      | next => exact hr2.elim
      | ret v =>
        obtain ⟨rfl, h', M, rfl, T, g, keep⟩ := hr2
        repeat (any_goals (first | assumption | wp_step))
        exact q _ M T g keep
end
end Kn


/-! Kn: the call of set with a dict whose keys are tuples, over the layer. -/
namespace Kn
open PySem PySem.Spec PyProof.Rows L2
def kD : L2.Key → PyData
  | .inl i => .int i
  | .inr x => .str x
/-- the key tuples of a dict as cells -/
def CellsOf (H : Hp) (kvs : List (List L2.Key × V)) (ps : List Cell) : Prop := Paired (fun p (c : Cell) => H c.1 = some (.tup (p.1.map kV)) ∧ c.2 = .tuple (p.1.map kD)) kvs ps
section
variable {X : Cx}
theorem dp_kV {K : PySem.W.Frag} {H : Hp} : ∀ k : List L2.Key, DpAll K H (k.map kV) (k.map kD)
  | [] => .nil
  | .inl i :: r => .cons (.int i) (dp_kV r)
  | .inr x :: r => .cons (.str x) (dp_kV r)
theorem kd_key : ∀ k : List L2.Key, keysB (k.map kD) = true
  | [] => rfl
  | .inl i :: r => kd_key r
  | .inr x :: r => kd_key r
theorem kd_deep : ∀ k : List L2.Key, PyData.depthAll (k.map kD) = 0
  | [] => rfl
  | .inl i :: r => by
    show max 0 (PyData.depthAll (r.map kD)) = 0
    rw [kd_deep r]
    rfl
  | .inr x :: r => by
    show max 0 (PyData.depthAll (r.map kD)) = 0
    rw [kd_deep r]
    rfl
theorem kd_hash (w : World) : ∀ k : List L2.Key, NestedKey.hashes w (keyDs (k.map kD)) = k.map (keyH w)
  | [] => rfl
  | .inl i :: r => by
    show hashInt i :: NestedKey.hashes w (keyDs (r.map kD)) = _
    rw [kd_hash w r]
    rfl
  | .inr x :: r => by
    show hashStr w x :: NestedKey.hashes w (keyDs (r.map kD)) = _
    rw [kd_hash w r]
    rfl
theorem cells_of {H : Hp} : ∀ {kvs : List (List L2.Key × V)} {xs : List (List L2.Key × Addr × Value)}, KT H kvs xs → CellsOf H kvs (xs.map fun x => (x.2.1, .tuple (x.1.map kD)))
  | _, _, .nil => .nil
  | _, _, .cons h t => .cons ⟨h.2.1, by rw [h.1]⟩ (cells_of t)
theorem CellsOf.mem {H : Hp} : ∀ {kvs : List (List L2.Key × V)} {ps : List Cell}, CellsOf H kvs ps → ∀ c ∈ ps, ∃ k : List L2.Key, H c.1 = some (.tup (k.map kV)) ∧ c.2 = .tuple (k.map kD) ∧ k ∈ kvs.map (·.1)
  | _, _, .nil, c, h => by cases h
  | p :: kvs, _, .cons a t, c, h => by
    rcases List.mem_cons.mp h with rfl | h
    · exact ⟨p.1, a.1, a.2, List.mem_cons_self ..⟩
    · obtain ⟨k, z1, z2, z3⟩ := CellsOf.mem t c h
      exact ⟨k, z1, z2, List.mem_cons_of_mem _ z3⟩
theorem CellsOf.all {H : Hp} : ∀ {kvs : List (List L2.Key × V)} {ps : List Cell}, CellsOf H kvs ps → ∀ k ∈ kvs.map (·.1), ∃ c ∈ ps, c.2 = .tuple (k.map kD)
  | _, _, .nil, c, h => by cases h
  | p :: kvs, _, .cons a t, k, h => by
    rcases List.mem_cons.mp h with rfl | h
    · exact ⟨_, List.mem_cons_self .., a.2⟩
    · obtain ⟨c, z1, z2⟩ := CellsOf.all t k h
      exact ⟨c, List.mem_cons_of_mem _ z1, z2⟩
def rSetDT (K : PySem.W.Frag) (w : World) : List V → Hp → VK → Prop := fun vs H Q => ∃ (d : Addr) (kvs : List (List L2.Key × V)), vs = [.ref d] ∧ H d = some (.dT kvs) ∧ kvs.length ≤ 12 ∧
  ∀ (a : Addr) (ps qs : List Cell), CellsOf H kvs ps → H a = none → (∀ q ∈ qs, q ∈ ps) → (∀ p ∈ ps, keyD p.2 ∈ qs.map fun q => keyD q.2) → (qs.map fun q => keyD q.2).Nodup → Q (.ref a) (upd H a (SetK w a (qs.map memOf)))
theorem cr_setDT (hc : X.calm = true) (hu : X.A.units + 64 < cLine) : CallR X (.type "set") (rSetDT X.K X.w) := by
  intro pins s σ H vs us Q I r h
  obtain ⟨d, kvs, rfl, hd, few, q⟩ := h
  rw [Vals.ref1 r]
  obtain ⟨z, hs, xs, pr, o, es, ep, ho, hx, hdt, he, his, hn⟩ := dt_of I.hok hd
  have l2 : kvs.length = xs.length := Paired.length pr
  have cl := cells_of pr
  generalize hps : (xs.map fun x => ((x.2.1, .tuple (x.1.map kD)) : Cell)) = ps at cl
  have lp : ps.length = xs.length := by rw [← hps, List.length_map]
  have R : RowsAt X.w es (ps.map memOf) := by
    refine ⟨by rw [size_of_entries he, List.length_map, lp], fun i m hm => ?_⟩
    rw [← hps, List.map_map, List.getElem?_map] at hm
    rw [entry_at he i]
    cases e : xs[i]? with
    | none => rw [e] at hm; cases hm
    | some x =>
      rw [e] at hm
      obtain rfl := Option.some.inj hm
      refine ⟨x.2.2, ?_⟩
      show some (entryOfKey _ x) = some _
      congr 1
      show (⟨reduceHash (Builtin.Tuple.tupleHashOf (x.1.map (keyH X.w))), .ref x.2.1, x.2.2⟩ : DictEntry) = ⟨reduceHash (Builtin.Tuple.tupleHashOf (NestedKey.hashes X.w (keyDs (x.1.map kD)))), .ref x.2.1, x.2.2⟩
      rw [kd_hash]
  refine key_set_dict (ps.map memOf) ho hx hdt hs R (fun m hm => ?_) (by rw [List.length_map, lp]; omega) (by omega) fun h' M T g keep => ?_
  · obtain ⟨p, hpm, rfl⟩ := List.mem_map.mp hm
    obtain ⟨k, e1, e2, _⟩ := cl.mem p hpm
    have dp : Dp X.K H (.ref p.1) p.2 := by
      rw [e2]
      exact .tup (.inl (.inl e1)) (dp_kV k)
    have kb : keyB p.2 = true := by
      rw [e2]
      exact kd_key k
    refine ⟨(dp_key I dp kb).2, ?_⟩
    show (keyD p.2).depth ≤ 8
    rw [key_depth _ kb, e2]
    show PyData.depthAll (k.map kD) + 1 ≤ 8
    rw [kd_deep]
    decide
  · obtain ⟨qs, rfl, sub⟩ := lift_sub M g.sub
    obtain ⟨_, T1⟩ := T.ex
    obtain ⟨o', es', ep', t', _, _, _, TT⟩ := T1.ex
    have nd := TT.nd
    rw [List.map_map] at nd
    refine ⟨.ref _, upd H s.heap.objs.size (SetK X.w s.heap.objs.size (qs.map memOf)), I.laid (t' := s.toks) keep (Nat.le_refl _) (setK_new T), rfl, q _ ps qs cl (I.hok.fresh (Nat.le_refl _)) sub (fun p hpm => ?_) nd⟩
    have z := g.all (memOf p) (List.mem_map.mpr ⟨p, hpm, rfl⟩)
    rw [List.map_map] at z
    exact z
end
end Kn


namespace Kn
open PySem PySem.Spec PyProof.Rows L2
def spLvL (K : PySem.W.Frag) : Sp := fun vs H Q _ => ∃ (w : V) (q : Addr) (g : Pg) (xs : List V) (ps : List (Str × Int)), vs = [w, .ref q] ∧ PgAt K H w g ∧ GW g ∧ SqL K H q xs ∧ DpAll K H xs (ps.map dPr) ∧ ps.length ≤ 1000 ∧ (∀ s ∈ ps, (rowOf g s.1).isSome = true) ∧
  ∀ (l : Addr) (ys : List V) (H' : Hp), Same H H' → H' l = some (.lst ys) → PrsAt H' ys (lv g ps) → ys.length ≤ 8 * ps.length → Q (.ref l) H'
/-! ### pairs as cells of sets -/
abbrev PCell := Addr × (Str × Int)
abbrev pcD (c : PCell) : Cell := (c.1, dPr c.2)
def PC (H : Hp) (cs : List PCell) : Prop := ∀ c ∈ cs, H c.1 = some (.tup [.str c.2.1, .int c.2.2])
theorem pcs_of {H : Hp} : ∀ {ys : List V} {ts : List (Str × Int)}, PrsAt H ys ts → ∃ cs : List PCell, ys = cs.map (fun c => V.ref c.1) ∧ ts = cs.map (·.2) ∧ PC H cs
  | _, _, .nil => ⟨[], rfl, rfl, fun _ h => by cases h⟩
  | _, _, .cons (s := s) a b => by
    obtain ⟨p, e, hp⟩ := a
    obtain ⟨cs, e1, e2, h⟩ := pcs_of b
    refine ⟨(p, s) :: cs, by rw [List.map_cons, ← e1, e], by rw [List.map_cons, ← e2], fun c hc => ?_⟩
    rcases List.mem_cons.mp hc with rfl | hc
    · exact hp
    · exact h c hc
theorem pcs_to {H : Hp} : ∀ {cs : List PCell}, PC H cs → PrsAt H (cs.map fun c => V.ref c.1) (cs.map (·.2))
  | [], _ => .nil
  | c :: r, h => .cons ⟨c.1, rfl, h c (List.mem_cons_self ..)⟩ (pcs_to fun x hx => h x (List.mem_cons_of_mem _ hx))
theorem PC.same {H H' : Hp} {cs : List PCell} (h : PC H cs) (s : Same H H') : PC H' cs := fun c hc => s _ _ (h c hc)
theorem pc_dp {K : PySem.W.Frag} {H : Hp} {c : PCell} (h : H c.1 = some (.tup [.str c.2.1, .int c.2.2])) : Dp K H (.ref (pcD c).1) (pcD c).2 ∧ keyB (pcD c).2 = true ∧ (pcD c).2.depth ≤ 8 :=
  ⟨.tup (.inl (.inl h)) (.cons (.str _) (.cons (.int _) .nil)), rfl, (show 1 ≤ 8 by decide)⟩
theorem keyD_pr {s t : Str × Int} (h : keyD (dPr s) = keyD (dPr t)) : s = t := by
  have h : NestedKey.tup [.text s.1, .num s.2] = .tup [.text t.1, .num t.2] := h
  injection h with h
  injection h with h1 h2
  injection h1 with h1
  injection h2 with h2 _
  injection h2 with h2
  exact Prod.ext h1 h2
theorem asc_irr {s t : Str × Int} (a : PySem.W.dataLt (dPr s) (dPr t) = true) (b : PySem.W.dataLt (dPr t) (dPr s) = true) : False := by
  have z := PyProof.Rows.lex_trans _ _ _ a b
  have z : PySem.W.dataLt (dPr s) (dPr s) = true := z
  rw [PySem.W.dataLt_self] at z
  cases z
/-- pairs in order, told by their members -/
theorem asc_eq : ∀ {xs ys : List (Str × Int)}, Asc xs → Asc ys → (∀ s, s ∈ xs ↔ s ∈ ys) → xs = ys
  | [], [], _, _, _ => rfl
  | [], y :: ys, _, _, h => by cases (h y).mpr (List.mem_cons_self ..)
  | x :: xs, [], _, _, h => by cases (h x).mp (List.mem_cons_self ..)
  | x :: xs, y :: ys, a, b, h => by
    have a' := List.pairwise_cons.mp a
    have b' := List.pairwise_cons.mp b
    have e : x = y := by
      rcases List.mem_cons.mp ((h x).mp (List.mem_cons_self ..)) with e | m
      · exact e
      rcases List.mem_cons.mp ((h y).mpr (List.mem_cons_self ..)) with e | n
      · exact e.symm
      · exact (asc_irr (a'.1 y n) (b'.1 x m)).elim
    subst e
    refine congrArg _ (asc_eq a'.2 b'.2 fun s => ?_)
    have z := h s
    constructor
    · intro m
      rcases List.mem_cons.mp (z.mp (List.mem_cons_of_mem _ m)) with e | n
      · subst e
        exact (asc_irr (a'.1 s m) (a'.1 s m)).elim
      · exact n
    · intro m
      rcases List.mem_cons.mp (z.mpr (List.mem_cons_of_mem _ m)) with e | n
      · subst e
        exact (asc_irr (b'.1 s m) (b'.1 s m)).elim
      · exact n
theorem Asc.nd {xs : List (Str × Int)} (h : Asc xs) : xs.Nodup := h.imp fun {s t} z e => by
  subst e
  exact asc_irr z z
section
variable {P : Program} {w : World} {K : PySem.W.Frag} {mg : Str → Option Value} {base : Heap}
theorem ok_lvL {f fE fT : Addr} {fd fdE fdT : FuncData} (F : Fun K "leavings" "leavings" (topS 24) f fd) (Fe : Def K mg "fee_of" 17 ["web", "kind"] fE fdE) (OE : FnOk P w K mg base CX0 2 fE fdE ["web", "kind"] (spFe K))
    (Ta : Def K mg "table_of" 18 ["web", "kind"] fT fdT) (OT : FnOk P w K mg base CX0 2 fT fdT ["web", "kind"] (spTa K)) : FnOk P w K mg base CX0 3 f fd ["web", "pairs"] (spLvL K) := by
  refine F.ok scLv (fun vs H Q E h => ?_) (fun cdv A outer s H vs Q E hr h => ?_)
  · obtain ⟨w0, q, g, xs, ps, rfl, _⟩ := h
    rfl
  · obtain ⟨w0, q0, g, xs, ps, rfl, pg, G, hT, hps, few, all, q⟩ := h
    refine ⟨_, pss_one (ps_ret (pe_lc2 (wi1 := iTup K (tCall (spTa K) [] E0 (tCons (tVar 0) (tCons (tVar 2) tNil)))) (own := [("name", 2), ("mark", 3), ("kind", 4)]) (vs1 := [4]) (g := gTup K 2 (gCons (gName 2) (gCons (gName 3) gNil))) (g1 := gName 4) (by rfl) scLv.nd (pi_list (pv 1))
      (blkOk_by (own := [("name", 2), ("mark", 3), ("kind", 4)]) (N := nLv) (sc := defScope (topS 24)) (by decide +kernel)) (by decide)
      (fun _ _ _ _ _ => pg_tup (by rfl) (pgs_cons (pg_name (i := 2) scLv.nd rfl (Or.inl rfl)) (pgs_cons (pg_name (i := 3) scLv.nd rfl (Or.inl rfl)) pgs_nil))) (fun _ _ _ _ _ => pts_nil)
      ?hi1 (fun _ _ _ _ _ => pg_name (i := 4) scLv.nd rfl (Or.inl rfl)) (fun _ _ _ _ _ => pts_nil)
      (fun _ _ _ _ _ => pe_tup (pa_cons (pv 4) (pa_cons (pe_op op_sub (pv 3) (pe_call OE hr (by rfl) Fe.m Fe.F.kp Fe.b .nil pass0 (pa_cons (pv 0) (pa_cons (pv 2) pa_nil)))) pa_nil))))), ?_⟩
    case hi1 => exact fun _ _ _ _ _ => pi_tup (pe_call OT hr (by rfl) Ta.m Ta.F.kp Ta.b .nil pass0 (pa_cons (pv 0) (pa_cons (pv 2) pa_nil)))
    dsimp only [tRet, tTup, tCons, tC, tCB]
    have lx : xs.length = ps.length := by rw [dsLen hps, List.length_map]
    refine ⟨.ref q0, rfl, q0, rfl, ⟨xs, hT⟩, fun D nD => ?_⟩
    refine ⟨fun i m F => m = ps.length - i ∧ i ≤ ps.length ∧ Same H F ∧ ∃ acc, F D = some (.lst acc) ∧ acc.length ≤ 5 * i ∧ PrsAt F acc (lv g (ps.take i)), ⟨_, rfl, Nat.zero_le _, same_new nD, [], upd_same, Nat.zero_le _, .nil⟩, ?_⟩
    rintro i m F ⟨rfl, hi, sm, acc, eD, la, hacc⟩
    have qT := sm.seq hT
    by_cases lt : i < ps.length
    · have hx : xs[i]? = some (xs[i]'(by omega)) := List.getElem?_eq_getElem (by omega)
      have hs : ps[i]? = some (ps[i]'lt) := List.getElem?_eq_getElem lt
      generalize ps[i]'lt = s0 at hs
      obtain ⟨d0, hd0, pr⟩ := dsAt hps i _ hx
      obtain rfl : dPr s0 = d0 := by
        rw [List.getElem?_map, hs] at hd0
        exact Option.some.inj hd0
      obtain ⟨px, ex, hpx⟩ := pr_seq pr
      obtain ⟨e, he⟩ := Option.isSome_iff_exists.mp (all s0 (List.mem_of_getElem? hs))
      have em := (row_is he).1
      have e5 := G.rows e em
      have el : lvOf g s0 = e.row.map fun k => (k, s0.2 - e.fee) := by
        unfold lvOf
        rw [he]
      refine .inr ⟨⟨xs, _, qT, hx⟩, fun F' => Same H F' ∧ ∃ acc, F' D = some (.lst acc) ∧ acc.length ≤ 5 * (i + 1) ∧ PrsAt F' acc (lv g (ps.take (i + 1))), fun F' z => ⟨ps.length - (i + 1), by omega, rfl, lt, z⟩, fun x F' y => ?_⟩
      obtain ⟨rfl, y⟩ := y
      have ey := y xs qT
      rw [hx] at ey
      cases ey
      refine ⟨px, _, ex, tupS sm hpx, rfl, _, _, rfl, _, _, rfl, rfl, rfl, ?_⟩
      dsimp only [tYes]
      refine iteT ?_
      refine ⟨w0, rfl, .str s0.1, rfl, w0, g, s0.1, e, rfl, pg.same sm, he, fun qe hqe => ⟨qe, rfl, ⟨_, hqe⟩, ?_⟩⟩
      refine ⟨fun j k F1 => k = e.row.length - j ∧ j ≤ e.row.length ∧ Same H F1 ∧ TS F' F1 ∧ ∃ acc, F1 D = some (.lst acc) ∧ acc.length ≤ 5 * i + j ∧ PrsAt F1 acc (lv g (ps.take i) ++ (e.row.take j).map fun k => (k, s0.2 - e.fee)), ?_, ?_⟩
      · exact ⟨_, rfl, Nat.zero_le _, sm, TS.refl _, acc, eD, la, by rw [List.take_zero, List.map_nil, List.append_nil]; exact hacc⟩
      · rintro j k F1 ⟨rfl, hj, s1, u1, acc1, eD1, la1, hacc1⟩
        have qE := tupT u1 hqe
        by_cases lt1 : j < e.row.length
        · have hk : e.row[j]? = some (e.row[j]'lt1) := List.getElem?_eq_getElem lt1
          generalize e.row[j]'lt1 = kn at hk
          have hkv : (e.row.map V.str)[j]? = some (.str kn) := by rw [List.getElem?_map, hk]; rfl
          refine .inr ⟨⟨_, _, qE, hkv⟩, fun F2 => Same H F2 ∧ TS F' F2 ∧ ∃ acc, F2 D = some (.lst acc) ∧ acc.length ≤ 5 * i + (j + 1) ∧ PrsAt F2 acc (lv g (ps.take i) ++ (e.row.take (j + 1)).map fun k => (k, s0.2 - e.fee)), fun F2 z => ⟨e.row.length - (j + 1), by omega, rfl, lt1, z⟩, fun x F2 y => ?_⟩
          obtain ⟨rfl, y⟩ := y
          have ey := y _ qE
          rw [hkv] at ey
          cases ey
          refine ⟨rfl, ?_⟩
          refine iteT ?_
          refine ⟨.str kn, rfl, .int s0.2, rfl, w0, rfl, .str s0.1, rfl, w0, g, s0.1, e, rfl, pg.same s1, he, s0.2, e.fee, rfl, rfl, ⟨show 2 ≤ sizeLine by decide, fun t nt => ?_⟩⟩
          have ne : D ≠ t := ne_of_none eD1 nt
          have t1 : TS F2 (upd F2 t (.tup [.str kn, .int (s0.2 - e.fee)])) := ts_same (same_new nt)
          have t2 : TS (upd F2 t (.tup [.str kn, .int (s0.2 - e.fee)])) (upd (upd F2 t (.tup [.str kn, .int (s0.2 - e.fee)])) D (.lst (acc1 ++ [.ref t]))) := ts_lst ((upd_ne ne).trans eD1)
          refine ⟨acc1, (upd_ne ne).trans eD1, Nat.lt_of_le_of_lt (show acc1.length ≤ 1000000 by omega) (by decide), putS (putS s1 (s1.free nt)) nD, u1.trans (t1.trans t2), acc1 ++ [.ref t], upd_same, by rw [List.length_append]; show acc1.length + 1 ≤ _; omega, ?_⟩
          rw [List.take_add_one, hk, List.map_append, ← List.append_assoc]
          exact PrsAt.app ((hacc1.ts t1).ts t2) (.cons ⟨t, rfl, t2.1 _ _ upd_same⟩ .nil)
        · obtain rfl : j = e.row.length := by omega
          refine .inl ⟨⟨_, qE, by rw [List.length_map]; exact Nat.le_refl _⟩, s1, acc1, eD1, by omega, ?_⟩
          rw [lv_snoc hs, el]
          rw [List.take_length] at hacc1
          exact hacc1
    · obtain rfl : i = ps.length := by omega
      refine .inl ⟨⟨xs, qT, by omega⟩, ?_⟩
      rw [List.take_length] at hacc
      exact q D acc F sm eD hacc (by omega)
end
/-- what comes of a set of pairs, sorted -/
def SetEnd (K : PySem.W.Frag) (ts : List (Str × Int)) (H : Hp) (Q : VK) : Prop := ∀ (q : Addr) (zs : List V) (rs : List (Str × Int)) (H' : Hp), Same H H' → H' q = some (.tup zs) → PrsAt H' zs rs → Asc rs → (∀ s, s ∈ rs ↔ s ∈ ts) → Q (.ref q) H'
section
variable {K : PySem.W.Frag} {w : World}
theorem sorted_end {cs : List PCell} {qs : List Cell} {a : Addr} {H : Hp} {Q : VK} {R : VK} (pc : PC H cs) (na : H a = none) (sub : ∀ q ∈ qs, q ∈ cs.map pcD) (all : ∀ p ∈ cs.map pcD, keyD p.2 ∈ qs.map fun q => keyD q.2) (nd : (qs.map fun q => keyD q.2).Nodup)
    (q : SetEnd K (cs.map (·.2)) H Q) (fin : ∀ (l : Addr) (vs : List V) (H' : Hp), Same H H' → H' l = some (.lst vs) → (∀ p, H' p = none → Q (.ref p) (upd H' p (.tup vs))) → R (.ref l) H') : rSortedK K w [.ref a] (upd H a (SetK w a (qs.map memOf))) R := by
  obtain ⟨cq, rfl, hcq⟩ := lift_sub qs sub
  have s1 := same_new (o := SetK w a ((cq.map pcD).map memOf)) na
  have pq : PC (upd H a (SetK w a ((cq.map pcD).map memOf))) cq := fun c hc => s1 _ _ (pc c (hcq c hc))
  refine ⟨a, cq.map pcD, rfl, upd_same, fun p hp => ?_, ?_, ?_, fun l rs nl pm pw => ?_⟩
  · obtain ⟨c, hc, rfl⟩ := List.mem_map.mp hp
    exact pc_dp (pq c hc)
  · have := pr_alike (cq.map (·.2))
    rw [List.map_map] at this ⊢
    exact this
  · have := pr_sortable (cq.map (·.2))
    rw [List.map_map] at this ⊢
    exact this
  · obtain ⟨cr, pr, rfl⟩ := lift_perm rs cq pm
    have eus : (cr.map pcD).map (fun q => V.ref q.1) = cr.map fun c => V.ref c.1 := List.map_map ..
    rw [eus]
    have s2 := s1.trans (same_new (o := .lst (cr.map fun c => V.ref c.1)) nl)
    have e2 : (upd (upd H a (SetK w a ((cq.map pcD).map memOf))) l (.lst (cr.map fun c => V.ref c.1))) l = some (.lst (cr.map fun c => V.ref c.1)) := upd_same
    generalize upd (upd H a (SetK w a ((cq.map pcD).map memOf))) l (.lst (cr.map fun c => V.ref c.1)) = H2 at s2 e2 ⊢
    have pr2 : PC H cr := fun c hc => pc c (hcq c (pr.mem_iff.mp hc))
    have ndq : (cq.map (·.2)).Nodup := by
      rw [List.map_map] at nd
      refine List.pairwise_map.mpr ((List.pairwise_map.mp nd).imp fun {x y} h e => h ?_)
      show keyD (dPr x.2) = keyD (dPr y.2)
      rw [e]
    have asc : Asc (cr.map (·.2)) := by
      have z := asc_of (cs := cr.map fun c => (V.ref c.1, c.2)) (by rw [List.map_map]; exact List.pairwise_map.mpr ((List.pairwise_map.mp pw).imp fun {x y} h => h)) (by rw [List.map_map]; exact ((pr.map (·.2)).nodup_iff).mpr ndq)
      rw [List.map_map] at z
      exact z
    refine fin l _ H2 s2 e2 fun p np => ?_
    have s3 := same_new (o := .tup (cr.map fun c => V.ref c.1)) np
    refine q p _ (cr.map (·.2)) _ (s2.trans s3) upd_same ?_ asc fun s => ?_
    · exact pcs_to ((pr2.same s2).same s3)
    · constructor
      · intro h
        obtain ⟨c, hc, rfl⟩ := List.mem_map.mp h
        exact List.mem_map.mpr ⟨c, hcq c (pr.mem_iff.mp hc), rfl⟩
      · intro h
        obtain ⟨c, hc, rfl⟩ := List.mem_map.mp h
        have z := all (pcD c) (List.mem_map.mpr ⟨c, hc, rfl⟩)
        rw [List.map_map] at z
        obtain ⟨c', hc', e⟩ := List.mem_map.mp z
        rw [← keyD_pr (s := c'.2) (t := c.2) e]
        exact List.mem_map.mpr ⟨c', pr.mem_iff.mpr hc', rfl⟩
end
end Kn


namespace Kn
open PySem PySem.Spec PyProof.Rows L2
abbrev kS (s : Str × Int) : List L2.Key := [.inr s.1, .inl s.2]
abbrev kEnt (s : Str × Int) : List L2.Key × V := (kS s, .bl true)
def spAsP (K : PySem.W.Frag) : Sp := fun vs H Q _ => ∃ (l : Addr) (ys : List V) (ts : List (Str × Int)), vs = [.ref l] ∧ SqL K H l ys ∧ PrsAt H ys ts ∧ ts.length + 1 < 64 ∧ SetEnd K ts H Q
def spAsD (K : PySem.W.Frag) : Sp := fun vs H Q _ => ∃ (d : Addr) (ts : List (Str × Int)), vs = [.ref d] ∧ H d = some (.dT (ts.map kEnt)) ∧ ts.length ≤ 12 ∧ SetEnd K ts H Q
theorem cells_pc {H : Hp} : ∀ {ts : List (Str × Int)} {ps : List Cell}, CellsOf H (ts.map kEnt) ps → ∃ cs : List PCell, ps = cs.map pcD ∧ ts = cs.map (·.2) ∧ PC H cs
  | [], _, .nil => ⟨[], rfl, rfl, fun _ h => by cases h⟩
  | s :: ts, c :: ps, .cons a b => by
    obtain ⟨cs, e1, e2, h⟩ := cells_pc b
    obtain ⟨a1, a2⟩ := a
    refine ⟨(c.1, s) :: cs, ?_, by rw [List.map_cons, ← e2], fun x hx => ?_⟩
    · rw [List.map_cons, ← e1]
      congr 1
      exact Prod.ext rfl a2
    · rcases List.mem_cons.mp hx with rfl | hx
      · exact a1
      · exact h x hx
section
variable {P : Program} {w : World} {K : PySem.W.Frag} {mg : Str → Option Value} {base : Heap}
theorem ok_asP {f : Addr} {fd : FuncData} (F : Fun K "ascending" "ascending" (topS 8) f fd) (mt : mg "tuple" = none) (mo : mg "sorted" = none) (me : mg "set" = none) : FnOk P w K mg base CX0 1 f fd ["things"] (spAsP K) := by
  refine F.ok scAs (fun vs H Q E h => ?_) (fun cdv A outer s H vs Q E hr h => ?_)
  · obtain ⟨l, ys, ts, rfl, _⟩ := h
    rfl
  · obtain ⟨l, ys, ts, rfl, hl, hy, few, q⟩ := h
    have hu := hr.units
    refine ⟨_, pss_one (ps_ret (pe_callTy call_tuple_of (by rfl) mt boot_tuple (pa_cons (pe_callB (cr_sortedK (by rfl) hu) (by rfl) mo (by decide +kernel) (pa_cons (pe_callTy (cr_setK (by rfl) hu) (by rfl) me (by decide +kernel) (pa_cons (pv 0) pa_nil)) pa_nil)) pa_nil))), ?_⟩
    obtain ⟨cs, rfl, rfl, pc⟩ := pcs_of hy
    refine ⟨.ref l, rfl, l, cs.map pcD, rfl, ?_, fun p hp => ?_, ?_, fun a qs na sub all nd => ?_⟩
    · rw [List.map_map]
      exact hl
    · obtain ⟨c, hc, rfl⟩ := List.mem_map.mp hp
      exact pc_dp (pc c hc)
    · rw [List.length_map] at few ⊢
      exact few
    · dsimp only [tNil]
      refine sorted_end pc na sub all nd q fun l2 vs H2 s2 e2 k => ?_
      exact ⟨l2, _, rfl, .inl ⟨.inl (.inl e2), fun p np => k p np⟩⟩
theorem ok_asD {f : Addr} {fd : FuncData} (F : Fun K "ascending" "ascending" (topS 8) f fd) (mt : mg "tuple" = none) (mo : mg "sorted" = none) (me : mg "set" = none) : FnOk P w K mg base CX0 1 f fd ["things"] (spAsD K) := by
  refine F.ok scAs (fun vs H Q E h => ?_) (fun cdv A outer s H vs Q E hr h => ?_)
  · obtain ⟨d, ts, rfl, _⟩ := h
    rfl
  · obtain ⟨d, ts, rfl, hd, few, q⟩ := h
    have hu := hr.units
    refine ⟨_, pss_one (ps_ret (pe_callTy call_tuple_of (by rfl) mt boot_tuple (pa_cons (pe_callB (cr_sortedK (by rfl) hu) (by rfl) mo (by decide +kernel) (pa_cons (pe_callTy (cr_setDT (by rfl) hu) (by rfl) me (by decide +kernel) (pa_cons (pv 0) pa_nil)) pa_nil)) pa_nil))), ?_⟩
    refine ⟨.ref d, rfl, d, ts.map kEnt, rfl, hd, by rw [List.length_map]; exact few, fun a ps qs cl na sub all nd => ?_⟩
    obtain ⟨cs, rfl, rfl, pc⟩ := cells_pc cl
    dsimp only [tNil]
    refine sorted_end pc na sub all nd q fun l2 vs H2 s2 e2 k => ?_
    exact ⟨l2, _, rfl, .inl ⟨.inl (.inl e2), fun p np => k p np⟩⟩
end
end Kn


namespace Kn
open PySem PySem.Spec PyProof.Rows L2
abbrev nLe : List Str := ["web", "marks"]
theorem scLe : FnScope nLe ["web", "marks"] (defScope (topS 25)) := ⟨rfl, rfl, rfl, by decide +kernel, rfl, by decide +kernel, by decide +kernel⟩
abbrev nFl : List Str := ["web", "plan", "found", "pair"]
theorem scFl : FnScope nFl ["web", "plan"] (defScope (topS 26)) := ⟨rfl, rfl, rfl, by decide +kernel, rfl, by decide +kernel, by decide +kernel⟩
theorem fm_if {α β : Type} {k : α → Bool} {f : α → β} : ∀ {l : List α}, l.filterMap (fun c => if k c = true then some (f c) else none) = (l.filter k).map f
  | [] => rfl
  | c :: r => by
    rw [List.filterMap_cons, List.filter_cons]
    by_cases z : k c = true
    · rw [if_pos z, if_pos z, List.map_cons, fm_if]
    · rw [if_neg z, if_neg z, fm_if]
def spLe (K : PySem.W.Frag) : Sp := fun vs H Q _ => ∃ (w : V) (g : Pg) (p : Int), vs = [w, .int p] ∧ PgAt K H w g ∧ GW g ∧
  ∀ (q : Addr) (ys : List V) (H' : Hp), Same H H' → H' q = some (.tup ys) → PrsAt H' ys (firstF g p) → Q (.ref q) H'
def spFl (K : PySem.W.Frag) : Sp := fun vs H Q _ => ∃ (w : V) (L : Addr) (g : Pg) (ys : List V) (ts : List (Str × Int)), vs = [w, .ref L] ∧ PgAt K H w g ∧ GW g ∧ SqL K H L ys ∧ PrsAt H ys ts ∧ ts.length ≤ 12 ∧ (∀ s ∈ ts, okP g s) ∧
  ∀ (q : Addr) (zs : List V) (rs : List (Str × Int)) (H' : Hp), Same H H' → H' q = some (.tup zs) → PrsAt H' zs rs → rs.Nodup → (∀ s, s ∈ rs ↔ (s ∈ lv g ts ∧ s ∉ ts ∧ canB g s.1 s.2 = true)) → Q (.ref q) H'
section
variable {P : Program} {w : World} {K : PySem.W.Frag} {mg : Str → Option Value} {base : Heap}
theorem ok_le {f fC : Addr} {fd fdC : FuncData} (F : Fun K "least_plan" "least_plan" (topS 25) f fd) (Cs : Def K mg "can_send" 19 ["web", "kind", "mark"] fC fdC) (OC : FnOk P w K mg base CX0 2 fC fdC ["web", "kind", "mark"] (spCs K)) :
    FnOk P w K mg base CX0 3 f fd ["web", "marks"] (spLe K) := by
  refine F.ok scLe (fun vs H Q E h => ?_) (fun cdv A outer s H vs Q E hr h => ?_)
  · obtain ⟨w0, g, p, rfl, _⟩ := h
    rfl
  · obtain ⟨w0, g, p, rfl, pg, G, q⟩ := h
    obtain ⟨pw, q0, ws, rfl, hpw, hq0, hE⟩ := id pg
    refine ⟨_, (pss_one (ps_ret (pe_ifExp (pt_val (pe_call OC hr (by rfl) Cs.m Cs.F.kp Cs.b .nil pass0 (pa_cons (pv 0) (pa_cons (pe_ix ix_tup (pv 0) pe_int (fun _ _ => rfl)) (pa_cons (pv 1) pa_nil))))) (pe_tup (pa_cons (pe_tup (pa_cons (pe_ix ix_tup (pv 0) pe_int (fun _ _ => rfl)) (pa_cons (pv 1) pa_nil))) pa_nil)) (pe_tup pa_nil)))), ?_⟩
    have askIn := mem_rows.mp G.asks
    refine ⟨.ref pw, rfl, .ref pw, rfl, pw, _, 1, .str g.asks, rfl, rfl, hpw, atI_nat (j := 1) rfl, .int p, rfl, .ref pw, g, g.asks, p, rfl, pg, askIn, _, rfl, ?_⟩
    have eF : firstF g p = if canB g g.asks p then [(g.asks, p)] else [] := rfl
    cases z : canB g g.asks p
    · rw [z] at eF
      refine iteF ⟨(show 0 ≤ sizeLine by decide), fun t nt => q t [] _ (same_new nt) upd_same ?_⟩
      rw [eF]
      exact .nil
    · rw [z] at eF
      refine iteT ⟨.ref pw, rfl, pw, _, 1, .str g.asks, rfl, rfl, hpw, atI_nat (j := 1) rfl, .int p, rfl, (show 2 ≤ sizeLine by decide), fun t nt => ⟨(show 1 ≤ sizeLine by decide), fun t2 n2 => ?_⟩⟩
      have s1 := same_new (o := .tup [.str g.asks, .int p]) nt
      have s2 := same_new (o := .tup [.ref t]) n2
      refine q t2 [.ref t] _ (s1.trans s2) upd_same ?_
      rw [eF]
      exact .cons ⟨t, rfl, s2 _ _ upd_same⟩ .nil
theorem ok_fl {f fA fL fC : Addr} {fd fdA fdL fdC : FuncData} (F : Fun K "followers" "followers" (topS 26) f fd)
    (As : Def K mg "ascending" 8 ["things"] fA fdA) (OA : FnOk P w K mg base CX0 1 fA fdA ["things"] (spAsP K))
    (Lv : Def K mg "leavings" 24 ["web", "pairs"] fL fdL) (OL : FnOk P w K mg base CX0 3 fL fdL ["web", "pairs"] (spLvL K))
    (Cs : Def K mg "can_send" 19 ["web", "kind", "mark"] fC fdC) (OC : FnOk P w K mg base CX0 2 fC fdC ["web", "kind", "mark"] (spCs K)) (mt : mg "tuple" = none) :
    FnOk P w K mg base CX0 4 f fd ["web", "plan"] (spFl K) := by
  refine F.ok scFl (fun vs H Q E h => ?_) (fun cdv A outer s H vs Q E hr h => ?_)
  · obtain ⟨w0, L, g, ys, ts, rfl, _⟩ := h
    rfl
  · obtain ⟨w0, L, g, ys, ts, rfl, pg, G, hL, hy, few, ok, q⟩ := h
    have hu := hr.units
    refine ⟨_, (pss_cons (ps_set (i := 2) scFl.nd rfl (.inl rfl) (pe_call OA (hr.mono (by decide)) (by rfl) As.m As.F.kp As.b .nil pass0 (pa_cons (pe_call OL hr (by rfl) Lv.m Lv.F.kp Lv.b .nil pass0 (pa_cons (pv 0) (pa_cons (pv 1) pa_nil))) pa_nil)))
      (pss_one (ps_ret (pe_callTy call_tuple_of (by rfl) mt (by decide +kernel) (pa_cons (pe_lc (own := [("pair", 3)]) (g := gName 3) (by rfl) scFl.nd (pi_tup (pv 2)) (blkOk_by (own := [("pair", 3)]) (N := nFl) (sc := defScope (topS 26)) (by decide +kernel)) (fun _ _ _ _ _ => (pg_name (i := 3) scFl.nd rfl (Or.inl rfl))) (fun _ _ _ _ _ => (pts_one (PW.pt (pw_and (pt_cmpR (r := rHasL K true) (op_notInLD hu) (pv 3) (pv 1) (by rfl)) (pw_and1 (pt_val (pe_call OC (hr.mono (by decide)) (by rfl) Cs.m Cs.F.kp Cs.b .nil pass0 (pa_cons (pv 0) (pa_cons (pe_ix (r := rIxT K) ix_tup (pv 3) pe_int (fun _ _ => rfl)) (pa_cons (pe_ix (r := rIxT K) ix_tup (pv 3) pe_int (fun _ _ => rfl)) pa_nil)))))))))) (fun _ _ _ _ _ => (pv 3))) pa_nil))))), ?_⟩
    have ll := lv_len G ts
    refine asg_seq ⟨w0, rfl, .ref L, rfl, w0, L, g, ys, ts, rfl, pg, G, hL, hy.dp, by omega, fun s hs => (ok s hs).1, fun l zs H1 s1 e1 h1 l1 => ⟨l, zs, lv g ts, rfl, .inl (.inl e1), h1, by omega, fun q2 zs2 rs H2 s2 e2 h2 asc mem => ?_⟩⟩
    dsimp only [gName, List.set]
    have s12 := s1.trans s2
    obtain ⟨cs, c1, c2, hcs⟩ := prs_zip h2
    subst c1
    dsimp only [tRet, tCons, tNil, tCB]
    refine ⟨.ref q2, rfl, q2, rfl, ⟨_, .inl (.inl e2)⟩, fun D nD => ?_⟩
    have rok : ∀ s ∈ rs, goodD (dPr s) = true ∧ (rowOf g s.1).isSome = true := fun s hs => by
      have z := (mem s).mp hs
      obtain ⟨t, ht, hl⟩ := List.mem_flatMap.mp z
      exact ⟨okP_left G (ok t ht) hl, lv_all G z⟩
    have few2 : cs.length ≤ 100000 := by
      have e : cs.length = rs.length := by rw [← c2, List.length_map]
      have := nodup_sub asc.nd (ys := lv g ts) fun s hs => (mem s).mp hs
      omega
    refine lc_sel (walk_tup (K := K) (a := q2) (xs := cs.map (·.1))) cs (fun c => if (decide (c.2 ∉ ts) && canB g c.2.1 c.2.2) = true then some c.1 else none) nD (by rw [List.length_map]) (by rw [List.length_map]; exact few2) (fun G' s => .inl (.inl (s _ _ e2))) ?_ ?_
    · intro j x c G' N Y hx hc sm no yes
      obtain rfl : c.1 = x := by
        rw [List.getElem?_map, hc] at hx
        exact Option.some.inj hx
      have cm := List.mem_of_getElem? hc
      have crs : c.2 ∈ rs := c2 ▸ List.mem_map.mpr ⟨c, cm, rfl⟩
      obtain ⟨cg, cr⟩ := rok c.2 crs
      have pc := (hcs c cm).ts (ts_same sm)
      have s3 := s12.trans sm
      refine ⟨rfl, c.1, rfl, .ref L, rfl, dPr c.2, ts.map dPr, pc.dp, .lst (s3.seq hL) (hy.ts (ts_same s3)).dp, good_shaped cg (show 1 ≤ 64 by decide), prs_lay fun s hs => okP_good G (ok s hs), (show 1 ≤ 60 by decide), _, rfl, ?_⟩
      rw [any_pr, Bool.bne_true]
      rw [decide_not] at no yes
      by_cases m : c.2 ∈ ts
      · rw [decide_eq_true m] at no yes ⊢
        exact iteF (no G' (Same.refl G') rfl)
      · rw [decide_eq_false m] at no yes ⊢
        obtain ⟨pp, ep, hpp⟩ := pc
        refine iteT ⟨w0, rfl, c.1, rfl, pp, _, 0, .str c.2.1, ep, rfl, .inl (.inl hpp), atI_nat (j := 0) rfl, c.1, rfl, pp, _, 1, .int c.2.2, ep, rfl, .inl (.inl hpp), atI_nat (j := 1) rfl, w0, g, c.2.1, c.2.2, rfl, pg.same s3, cr, _, rfl, ?_⟩
        cases zc : canB g c.2.1 c.2.2
        · rw [zc] at no
          exact iteF (no G' (Same.refl G') rfl)
        · rw [zc] at yes
          exact iteT ⟨c.1, rfl, yes c.1 G' (Same.refl G') rfl⟩
    · intro G' s3 eD
      refine ⟨D, _, rfl, .inl ⟨.inl (.inl eD), fun p np => ?_⟩⟩
      have s4 := s3.trans (same_new (o := .tup (cs.filterMap fun c => if (decide (c.2 ∉ ts) && canB g c.2.1 c.2.2) = true then some c.1 else none)) np)
      rw [fm_if]
      rw [fm_if] at s4
      refine q p _ ((cs.filter fun c => decide (c.2 ∉ ts) && canB g c.2.1 c.2.2).map (·.2)) _ (s12.trans s4) upd_same (prs_of_cs fun c hc => (hcs c ((List.mem_filter.mp hc).1)).ts (ts_same s4)) ?_ fun s => ?_
      · exact ((List.filter_sublist).map _).nodup (c2 ▸ asc.nd)
      · rw [← mem s, ← c2]
        constructor
        · intro h
          obtain ⟨c, hc, rfl⟩ := List.mem_map.mp h
          obtain ⟨h1, h2⟩ := List.mem_filter.mp hc
          rw [Bool.and_eq_true] at h2
          exact ⟨List.mem_map.mpr ⟨c, h1, rfl⟩, of_decide_eq_true h2.1, h2.2⟩
        · rintro ⟨h, h1, h2⟩
          obtain ⟨c, hc, rfl⟩ := List.mem_map.mp h
          exact List.mem_map.mpr ⟨c, List.mem_filter.mpr ⟨hc, by rw [decide_eq_true h1, h2]; rfl⟩, rfl⟩
end
end Kn


namespace Kn
open PySem PySem.Spec PyProof.Rows L2
theorem addP_sub {g : Pg} : ∀ {ts fs : List (Str × Int)}, ∀ s ∈ fs, s ∈ addP g fs ts
  | [], _, _, h => h
  | t :: ts, fs, s, h => by
    show s ∈ addP g (if decide (t ∉ fs) && canB g t.1 t.2 then fs ++ [t] else fs) ts
    refine addP_sub s ?_
    split
    · exact List.mem_append_left _ h
    · exact h
theorem addP_get {g : Pg} : ∀ {ts fs : List (Str × Int)} {i : Nat}, i < fs.length → (addP g fs ts)[i]? = fs[i]?
  | [], _, _, _ => rfl
  | t :: ts, fs, i, h => by
    show (addP g (if decide (t ∉ fs) && canB g t.1 t.2 then fs ++ [t] else fs) ts)[i]? = _
    split
    · rw [addP_get (by rw [List.length_append]; omega), List.getElem?_append_left h]
    · exact addP_get h
theorem addP_all {g : Pg} : ∀ {ts fs : List (Str × Int)} {u : Str × Int}, u ∈ ts → canB g u.1 u.2 = true → u ∈ addP g fs ts
  | t :: ts, fs, u, h, c => by
    show u ∈ addP g (if decide (t ∉ fs) && canB g t.1 t.2 then fs ++ [t] else fs) ts
    rcases List.mem_cons.mp h with rfl | h
    · refine addP_sub u ?_
      by_cases m : u ∈ fs
      · split
        · exact List.mem_append_left _ m
        · exact m
      · rw [if_pos (by rw [decide_eq_true m, c]; rfl)]
        exact List.mem_append_right _ (List.mem_singleton.mpr rfl)
    · exact addP_all h c
/-- what the first pairs lead to lies there -/
def ClosedTo (g : Pg) (t : Nat) (fs : List (Str × Int)) : Prop := ∀ (i : Nat) (s : Str × Int), i < t → fs[i]? = some s → ∀ u ∈ lvOf g s, canB g u.1 u.2 = true → u ∈ fs
theorem closed_all {g : Pg} {t : Nat} {fs : List (Str × Int)} (h : ClosedTo g t fs) (l : fs.length ≤ t) : ∀ s ∈ fs, ∀ u ∈ lvOf g s, canB g u.1 u.2 = true → u ∈ fs := fun s hs => by
  obtain ⟨i, hi, e⟩ := List.mem_iff_getElem.mp hs
  exact h i s (by omega) (by rw [List.getElem?_eq_getElem hi, e])
theorem bfs_closed {g : Pg} (G : GW g) {p : Int} (p6 : p ≤ 6) : ∀ {k t : Nat} {fs : List (Str × Int)}, GoodF g p fs → 28 ≤ k + t → ClosedTo g t fs → ∀ s ∈ bfs g k t fs, ∀ u ∈ lvOf g s, canB g u.1 u.2 = true → u ∈ bfs g k t fs
  | 0, t, fs, h, l, c => by
    unfold Kn.bfs
    exact closed_all c (by have := h.few G p6; omega)
  | k + 1, t, fs, h, l, c => by
    unfold Kn.bfs
    cases z : fs[t]? with
    | none => exact closed_all c (List.getElem?_eq_none_iff.mp z)
    | some s =>
      have ht : t < fs.length := (List.getElem?_eq_some_iff.mp z).1
      refine bfs_closed G p6 (h.add G (h.left G (List.mem_of_getElem? z))) (by omega) fun i s' hi hs u hu cu => ?_
      rw [addP_get (by omega)] at hs
      rcases Nat.lt_succ_iff_lt_or_eq.mp hi with y | rfl
      · exact addP_sub u (c i s' y hs u hu cu)
      · obtain rfl : s = s' := Option.some.inj (z.symm.trans hs)
        exact addP_all hu cu
theorem bfs_sub {g : Pg} : ∀ {k t : Nat} {fs : List (Str × Int)}, ∀ s ∈ fs, s ∈ bfs g k t fs
  | 0, _, _, s, h => h
  | k + 1, t, fs, s, h => by
    unfold Kn.bfs
    cases z : fs[t]? with
    | none => exact h
    | some x => exact bfs_sub s (addP_sub s h)
theorem found_closed {g : Pg} (G : GW g) {p : Int} (p6 : p ≤ 6) : ∀ s ∈ foundP g p, ∀ u ∈ lvOf g s, canB g u.1 u.2 = true → u ∈ foundP g p :=
  bfs_closed G p6 (GoodF.first G) (Nat.le_refl _) fun i s hi => absurd hi (Nat.not_lt_zero i)
theorem found_ask {g : Pg} {p : Int} (h : canB g g.asks p = true) : (g.asks, p) ∈ foundP g p := by
  refine bfs_sub _ ?_
  unfold firstF
  rw [if_pos h]
  exact List.mem_singleton.mpr rfl
/-- pairs that are led are found -/
theorem led_sub {g : Pg} (G : GW g) {p : Int} (p6 : p ≤ 6) {ps : List (Str × Int)} (can : ∀ s ∈ ps, canB g s.1 s.2 = true ∧ s.2 ≤ p) (led : ∀ s ∈ ps, s = (g.asks, p) ∨ s ∈ lv g ps) : ∀ (n : Nat) (s : Str × Int), s ∈ ps → (p - s.2).toNat ≤ n → s ∈ foundP g p := by
  intro n
  induction n with
  | zero =>
    intro s hs hn
    rcases led s hs with e | m
    · rw [e]
      exact found_ask (by have y := (can s hs).1; rw [e] at y; exact y)
    · obtain ⟨t, ht, hl⟩ := List.mem_flatMap.mp m
      have := (lv_known G hl).2
      have := (can t ht).2
      have := (can s hs).2
      omega
  | succ n ih =>
    intro s hs hn
    rcases led s hs with e | m
    · rw [e]
      exact found_ask (by have y := (can s hs).1; rw [e] at y; exact y)
    · obtain ⟨t, ht, hl⟩ := List.mem_flatMap.mp m
      have l1 := (lv_known G hl).2
      have l2 := (can t ht).2
      exact found_closed G p6 t (ih t ht (by omega)) s hl (can s hs).1
theorem addP_mem {g : Pg} : ∀ {ts fs : List (Str × Int)} {s : Str × Int}, s ∈ addP g fs ts → s ∈ fs ∨ s ∈ ts
  | [], _, _, h => .inl h
  | t :: ts, fs, s, h => by
    have h : s ∈ addP g (if decide (t ∉ fs) && canB g t.1 t.2 then fs ++ [t] else fs) ts := h
    rcases addP_mem h with h | h
    · split at h
      · rcases List.mem_append.mp h with h | h
        · exact .inl h
        · exact .inr (List.mem_singleton.mp h ▸ List.mem_cons_self ..)
      · exact .inl h
    · exact .inr (List.mem_cons_of_mem _ h)
structure LedF (g : Pg) (p : Int) (fs : List (Str × Int)) : Prop where
  led : ∀ s ∈ fs, s = (g.asks, p) ∨ s ∈ lv g fs
  first : canB g g.asks p = true → (g.asks, p) ∈ fs
theorem lv_mono {g : Pg} {fs gs : List (Str × Int)} (h : ∀ s ∈ fs, s ∈ gs) {t : Str × Int} (ht : t ∈ lv g fs) : t ∈ lv g gs := by
  obtain ⟨s, hs, e⟩ := List.mem_flatMap.mp ht
  exact List.mem_flatMap.mpr ⟨s, h s hs, e⟩
theorem LedF.of {g : Pg} {p : Int} {fs gs : List (Str × Int)} (h : LedF g p fs) (e : ∀ s, s ∈ gs ↔ s ∈ fs) : LedF g p gs :=
  ⟨fun s hs => (h.led s ((e s).mp hs)).imp id fun z => lv_mono (fun s hs => (e s).mpr hs) z, fun z => (e _).mpr (h.first z)⟩
theorem LedF.more {g : Pg} {p : Int} {fs : List (Str × Int)} (h : LedF g p fs) {t : Str × Int} (ht : t ∈ lv g fs) : LedF g p (fs ++ [t]) := by
  have sub : ∀ s ∈ fs, s ∈ fs ++ [t] := fun s hs => List.mem_append_left _ hs
  refine ⟨fun s hs => ?_, fun z => sub _ (h.first z)⟩
  rcases List.mem_append.mp hs with hs | hs
  · exact (h.led s hs).imp id fun z => lv_mono sub z
  · rw [List.mem_singleton.mp hs]
    exact .inr (lv_mono sub ht)
theorem LedF.add {g : Pg} {p : Int} {fs : List (Str × Int)} (h : LedF g p fs) {s : Str × Int} (hs : s ∈ fs) : LedF g p (addP g fs (lvOf g s)) := by
  refine ⟨fun t ht => ?_, fun z => addP_sub _ (h.first z)⟩
  rcases addP_mem ht with y | y
  · exact (h.led t y).imp id fun z => lv_mono (fun s hs => addP_sub s hs) z
  · exact .inr (List.mem_flatMap.mpr ⟨s, addP_sub _ hs, y⟩)
theorem LedF.bfs {g : Pg} {p : Int} : ∀ {k t : Nat} {fs : List (Str × Int)}, LedF g p fs → LedF g p (bfs g k t fs)
  | 0, _, _, h => h
  | k + 1, t, fs, h => by
    unfold Kn.bfs
    cases z : fs[t]? with
    | none => exact h
    | some s => exact LedF.bfs (h.add (List.mem_of_getElem? z))
theorem led_found (g : Pg) (p : Int) : LedF g p (foundP g p) := by
  refine LedF.bfs ⟨fun s hs => ?_, fun z => ?_⟩
  · unfold firstF at hs
    split at hs
    · exact .inl (List.mem_singleton.mp hs)
    · cases hs
  · unfold firstF
    rw [if_pos z]
    exact List.mem_singleton.mpr rfl
theorem addP_can {g : Pg} : ∀ {ts fs : List (Str × Int)} {s : Str × Int}, s ∈ addP g fs ts → s ∈ fs ∨ (s ∈ ts ∧ canB g s.1 s.2 = true)
  | [], _, _, h => .inl h
  | t :: ts, fs, s, h => by
    have h : s ∈ addP g (if decide (t ∉ fs) && canB g t.1 t.2 then fs ++ [t] else fs) ts := h
    rcases addP_can h with h | h
    · split at h
      · rename_i c
        rw [Bool.and_eq_true] at c
        rcases List.mem_append.mp h with h | h
        · exact .inl h
        · obtain rfl := List.mem_singleton.mp h
          exact .inr ⟨List.mem_cons_self .., c.2⟩
      · exact .inl h
    · exact .inr ⟨List.mem_cons_of_mem _ h.1, h.2⟩
/-- what is closed holds what is found -/
theorem bfs_in {g : Pg} {S : List (Str × Int)} (cl : ∀ s ∈ S, ∀ u ∈ lvOf g s, canB g u.1 u.2 = true → u ∈ S) : ∀ {k t : Nat} {fs : List (Str × Int)}, (∀ s ∈ fs, s ∈ S) → ∀ s ∈ bfs g k t fs, s ∈ S
  | 0, _, _, h, s, m => h s m
  | k + 1, t, fs, h, s, m => by
    unfold Kn.bfs at m
    cases z : fs[t]? with
    | none => rw [z] at m; exact h s m
    | some x =>
      rw [z] at m
      refine bfs_in cl (fun u hu => ?_) s m
      rcases addP_can hu with y | y
      · exact h u y
      · exact cl x (h x (List.mem_of_getElem? z)) u y.1 y.2
/-- the state of a search from the front on -/
structure Wide (g : Pg) (p : Int) (fs fr : List (Str × Int)) : Prop where
  good : GoodF g p fs
  led : LedF g p fs
  sub : ∀ s ∈ fr, s ∈ fs
  nd : fr.Nodup
  cl : ∀ s ∈ fs, s ∉ fr → ∀ u ∈ lvOf g s, canB g u.1 u.2 = true → u ∈ fs
theorem Wide.first {g : Pg} (G : GW g) (p : Int) : Wide g p (firstF g p) (firstF g p) := by
  refine ⟨GoodF.first G, ⟨fun s hs => ?_, fun z => ?_⟩, fun s h => h, (GoodF.first G).nd, fun s hs n => absurd hs n⟩
  · unfold firstF at hs
    split at hs
    · exact .inl (List.mem_singleton.mp hs)
    · cases hs
  · unfold firstF
    rw [if_pos z]
    exact List.mem_singleton.mpr rfl
theorem no_ask {g : Pg} (G : GW g) {p : Int} {qs : List (Str × Int)} (zc : canB g g.asks p = false) (can : ∀ s ∈ qs, canB g s.1 s.2 = true) (hi : ∀ s ∈ qs, s.2 ≤ p) (led : ledP g (g.asks, p) qs = true) : qs = [] := by
  have step : ∀ s ∈ qs, ∃ t ∈ qs, s.2 < t.2 := fun s hs => by
    have z := List.all_eq_true.mp led s hs
    rw [Bool.or_eq_true] at z
    rcases z with z | z
    · have e := of_decide_eq_true z
      have y := can s hs
      rw [e, zc] at y
      cases y
    · obtain ⟨t, ht, htt⟩ := List.mem_flatMap.mp (of_decide_eq_true z)
      exact ⟨t, ht, (lv_known G htt).2⟩
  have far : ∀ (n : Nat) (s : Str × Int), s ∈ qs → ∃ t ∈ qs, s.2 + (n : Int) ≤ t.2 := by
    intro n
    induction n with
    | zero => exact fun s hs => ⟨s, hs, by omega⟩
    | succ n ih =>
      intro s hs
      obtain ⟨t, ht, h1⟩ := ih s hs
      obtain ⟨u, hu, h2⟩ := step t ht
      exact ⟨u, hu, by omega⟩
  cases hq : qs with
  | nil => rfl
  | cons s0 r =>
    exfalso
    have m0 : s0 ∈ qs := by rw [hq]; exact List.mem_cons_self ..
    obtain ⟨t, ht, h1⟩ := far ((p - s0.2).toNat + 1) s0 m0
    have := hi t ht
    omega
/-- marks that are small, or with which nobody sends -/
def Low (g : Pg) (p : Int) : Prop := p ≤ 6 ∨ canB g g.asks p = false
theorem found_none {g : Pg} {p : Int} (zc : canB g g.asks p = false) : foundP g p = [] := by
  unfold foundP firstF
  rw [zc, if_neg Bool.false_ne_true]
  unfold Kn.bfs
  rfl
theorem Wide.none {g : Pg} (G : GW g) {p : Int} {fs fr : List (Str × Int)} (h : Wide g p fs fr) (zc : canB g g.asks p = false) : fs = [] :=
  no_ask G zc (fun s hs => (h.good.all s hs).2.1) (fun s hs => (h.good.all s hs).2.2.2) (List.all_eq_true.mpr fun s hs => by
    rcases h.led.led s hs with z | z
    · rw [decide_eq_true z]
      rfl
    · rw [decide_eq_true z, Bool.or_true])
theorem Wide.inF {g : Pg} (G : GW g) {p : Int} (lo : Low g p) {fs fr : List (Str × Int)} (h : Wide g p fs fr) : ∀ s ∈ fs, s ∈ foundP g p := fun s hs => by
  rcases lo with p6 | zc
  · exact led_sub G p6 (fun t ht => ⟨(h.good.all t ht).2.1, (h.good.all t ht).2.2.2⟩) h.led.led _ s hs (Nat.le_refl _)
  · rw [h.none G zc] at hs
    cases hs
theorem Wide.few {g : Pg} (G : GW g) {p : Int} (lo : Low g p) {fs fr : List (Str × Int)} (h : Wide g p fs fr) {n : Nat} (l : (foundP g p).length ≤ n) : fs.length ≤ n ∧ fr.length ≤ n := by
  have a := nodup_sub h.good.nd (h.inF G lo)
  have b := nodup_sub h.nd h.sub
  omega
theorem Wide.okP {g : Pg} (G : GW g) {p : Int} (lo : Low g p) {fs fr : List (Str × Int)} (h : Wide g p fs fr) : ∀ s ∈ fs, okP g s := fun s hs => by
  have z := h.good.all s hs
  rcases lo with p6 | zc
  · exact ⟨z.1, by have := z.2.2; omega⟩
  · rw [h.none G zc] at hs
    cases hs
theorem Wide.next {g : Pg} (G : GW g) {p : Int} (lo : Low g p) {fs fr rs : List (Str × Int)} (h : Wide g p fs fr) (mem : ∀ s, s ∈ rs ↔ (s ∈ lv g fr ∧ s ∉ fr ∧ canB g s.1 s.2 = true)) : ∀ s ∈ rs, s ∈ foundP g p := fun s hs => by
  obtain ⟨a, _, c⟩ := (mem s).mp hs
  obtain ⟨t, ht, hl⟩ := List.mem_flatMap.mp a
  rcases lo with p6 | zc
  · exact found_closed G p6 t (h.inF G (.inl p6) t (h.sub t ht)) s hl c
  · have z := h.sub t ht
    rw [h.none G zc] at z
    cases z
theorem Wide.step {g : Pg} (G : GW g) {p : Int} {fs fr rs : List (Str × Int)} (h : Wide g p fs fr) (nd : rs.Nodup) (mem : ∀ s, s ∈ rs ↔ (s ∈ lv g fr ∧ s ∉ fr ∧ canB g s.1 s.2 = true)) : Wide g p (fs ++ rs.filter fun s => decide (s ∉ fs)) (rs.filter fun s => decide (s ∉ fs)) := by
  have inr : ∀ s, s ∈ rs.filter (fun s => decide (s ∉ fs)) ↔ s ∈ rs ∧ s ∉ fs := fun s => by
    rw [List.mem_filter, decide_eq_true_iff]
  have ndf : (rs.filter fun s => decide (s ∉ fs)).Nodup := nd.filter _
  refine ⟨⟨List.nodup_append.mpr ⟨h.good.nd, ndf, fun a ha b hb e => ((inr b).mp hb).2 (e ▸ ha)⟩, fun s hs => ?_⟩, ⟨fun s hs => ?_, fun z => List.mem_append_left _ (h.led.first z)⟩, fun s hs => List.mem_append_right _ hs, ndf, fun s hs n u hu c => ?_⟩
  · rcases List.mem_append.mp hs with hs | hs
    · exact h.good.all s hs
    · obtain ⟨a, _, c⟩ := (mem s).mp ((inr s).mp hs).1
      obtain ⟨t, ht, hl⟩ := List.mem_flatMap.mp a
      obtain ⟨k, le⟩ := h.good.left G (h.sub t ht) s hl
      exact ⟨k, c, can_pos G c, le⟩
  · rcases List.mem_append.mp hs with hs | hs
    · exact (h.led.led s hs).imp id fun z => lv_mono (fun t ht => List.mem_append_left _ ht) z
    · obtain ⟨a, _⟩ := (mem s).mp ((inr s).mp hs).1
      exact .inr (lv_mono (fun t ht => List.mem_append_left _ (h.sub t ht)) a)
  · rcases List.mem_append.mp hs with hs | hs
    · by_cases m : s ∈ fr
      · by_cases mf : u ∈ fs
        · exact List.mem_append_left _ mf
        · refine List.mem_append_right _ ((inr u).mpr ⟨(mem u).mpr ⟨List.mem_flatMap.mpr ⟨s, m, hu⟩, fun z => mf (h.sub u z), c⟩, mf⟩)
      · exact List.mem_append_left _ (h.cl s hs m u hu c)
    · exact absurd hs n
theorem Wide.done {g : Pg} (G : GW g) {p : Int} (lo : Low g p) {fs : List (Str × Int)} (h : Wide g p fs []) : ∀ s, s ∈ fs ↔ s ∈ foundP g p := fun s =>
  ⟨h.inF G lo s, fun m => bfs_in (S := fs) (fun t ht => h.cl t ht (fun z => by cases z)) (fun t ht => by
    unfold firstF at ht
    split at ht
    · rename_i c
      rw [List.mem_singleton.mp ht]
      exact h.led.first c
    · cases ht) s m⟩
end Kn


namespace Kn
open PySem PySem.Spec PyProof.Rows L2
abbrev nWi : List Str := ["web", "marks", "without", "pair", "found", "fresh"]
theorem scWi : FnScope nWi ["web", "marks", "without"] (defScope (topS 27)) := ⟨rfl, rfl, rfl, by decide +kernel, rfl, by decide +kernel, by decide +kernel⟩
theorem kS_inj {s t : Str × Int} (h : kS s = kS t) : s = t := by
  injection h with h1 h2
  injection h1 with h1
  injection h2 with h2 _
  injection h2 with h2
  exact Prod.ext h1 h2
theorem val_ent {fs : List (Str × Int)} {s : Str × Int} : (valV (fs.map kEnt) (kS s)).isSome = decide (s ∈ fs) := by
  rw [← valV_any, List.any_map]
  induction fs with
  | nil => rfl
  | cons t r ih =>
    rw [List.any_cons, ih]
    show (decide (kS t = kS s) || decide (s ∈ r)) = decide (s ∈ t :: r)
    by_cases e : t = s
    · subst e
      rw [decide_eq_true rfl, decide_eq_true (List.mem_cons_self ..)]
      rfl
    · rw [decide_eq_false fun z => e (kS_inj z), Bool.false_or]
      exact decide_eq_decide.mpr ⟨fun h => List.mem_cons_of_mem _ h, fun h => (List.mem_cons.mp h).resolve_left fun z => e z.symm⟩
theorem put_ent {fs : List (Str × Int)} {s : Str × Int} (n : s ∉ fs) : putK (fs.map kEnt) (kS s) (.bl true) = (fs ++ [s]).map kEnt := by
  unfold putK
  rw [valV_any, val_ent, decide_eq_false n, if_neg Bool.false_ne_true, List.map_append]
  rfl
theorem keys_prs {H : Hp} : ∀ {fs : List (Str × Int)} {bs : List Addr}, IsKeys H (fs.map kEnt) bs → PrsAt H (bs.map V.ref) fs
  | [], [], .nil => .nil
  | _ :: _, _ :: _, .cons a t => .cons ⟨_, rfl, a⟩ (keys_prs t)
structure WiOk (g : Pg) (p : Int) : Prop where
  gw : GW g
  lo : Low g p
  few : (foundP g p).length ≤ 12
def FoundE (K : PySem.W.Frag) (g : Pg) (p : Int) (H : Hp) (Q : VK) : Prop := ∀ (q : Addr) (ys : List V) (qs : List (Str × Int)) (H' : Hp), Same H H' → H' q = some (.tup ys) → PrsAt H' ys qs → Asc qs → (∀ s, s ∈ qs ↔ s ∈ foundP g p) → Q (.ref q) H'
def spWi (K : PySem.W.Frag) : Sp := fun vs H Q _ => ∃ (w : V) (q0 : Addr) (g : Pg) (p : Int), vs = [w, .int p, .ref q0] ∧ PgAt K H w g ∧ WiOk g p ∧ H q0 = some (.tup []) ∧ FoundE K g p H Q
/-- a dict by a comprehension, over anything that is walked -/
theorem dcT_it {J : It} {n : Nat} {Gd : Hp → Prop} {Y : Nat → Hp → V → Hp → Prop} (wk : Walk J n Gd Y) {g : TG} {tt : TT} {tk tv : TE} {vs : List Nat} {σ : L2.St} {G : Hp} {D : Addr} {Qd : Hp → Prop} (Pv : Nat → Hp → Prop) (start : Pv 0 (upd G D (.dT []))) (stay : ∀ i F, i ≤ n → Pv i F → Gd F)
    (turn : ∀ i x F F', i < n → Pv i F → Y i F x F' → turnT D g tt tk tv vs σ x F' (Pv (i + 1))) (fin : ∀ F, Pv n F → Qd F) :
    ∃ W : Nat → Nat → Hp → Prop, (∃ m, W 0 m (upd G D (.dT []))) ∧
      ∀ i m F, W i m F → (J.stop i F ∧ Qd F) ∨ (J.go i F ∧ ∃ Nx : Hp → Prop, (∀ F', Nx F' → ∃ k, k < m ∧ W (i + 1) k F') ∧ ∀ x F', J.yld i F x F' → turnT D g tt tk tv vs σ x F' Nx) := by
  refine ⟨fun i m F => m = n - i ∧ i ≤ n ∧ Pv i F, ⟨_, rfl, Nat.zero_le _, start⟩, fun i m F ⟨em, le, p⟩ => ?_⟩
  have gd := stay i F le p
  by_cases lt : i < n
  · exact .inr ⟨wk.goes i F lt gd, Pv (i + 1), fun F' p' => ⟨n - (i + 1), by omega, rfl, lt, p'⟩, fun x F' y => turn i x F F' lt p (wk.yields i F x F' lt gd y)⟩
  · obtain rfl : i = n := by omega
    exact .inl ⟨wk.stops F gd, fin F p⟩
section
variable {P : Program} {w : World} {K : PySem.W.Frag} {mg : Str → Option Value} {base : Heap}
theorem ok_wi {f fA fE fF : Addr} {fd fdA fdE fdF : FuncData} (F : Fun K "widest_pairs" "widest_pairs" (topS 27) f fd)
    (As : Def K mg "ascending" 8 ["things"] fA fdA) (OA : FnOk P w K mg base CX0 1 fA fdA ["things"] (spAsD K))
    (Le : Def K mg "least_plan" 25 ["web", "marks"] fE fdE) (OE : FnOk P w K mg base CX0 3 fE fdE ["web", "marks"] (spLe K))
    (Fl : Def K mg "followers" 26 ["web", "plan"] fF fdF) (OF : FnOk P w K mg base CX0 4 fF fdF ["web", "plan"] (spFl K)) (ml : mg "len" = none) (mli : mg "list" = none) :
    FnOk P w K mg base CX0 5 f fd ["web", "marks", "without"] (spWi K) := by
  refine F.ok scWi (fun vs H Q E h => ?_) (fun cdv A outer s H vs Q E hr h => ?_)
  · obtain ⟨w0, q0, g, p, rfl, _⟩ := h
    rfl
  · obtain ⟨w0, q0, g, p, rfl, pg, C, h0, q⟩ := h
    have hu64 := hr.units
    have hu := Nat.lt_of_le_of_lt (Nat.add_le_add_left (show 1 ≤ 64 by decide) _) hu64
    refine ⟨_, (pss_cons (ps_set (i := 4) scWi.nd rfl (.inr rfl) (pe_dcT (hu) (own := [("pair", 3)]) (g := gName 3) (by rfl) scWi.nd (pi_tup (pe_call OE (hr.mono (by decide)) (by rfl) Le.m Le.F.kp Le.b .nil pass0 (pa_cons (pv 0) (pa_cons (pv 1) pa_nil)))) (blkOk_by (own := [("pair", 3)]) (N := nWi) (sc := defScope (topS 27)) (by decide +kernel)) (fun _ _ _ _ _ => pg_name (i := 3) scWi.nd rfl (Or.inl rfl)) (fun _ _ _ _ _ => pts_nil) (fun _ _ _ _ _ => (pv 3)) (fun _ _ _ _ _ => pe_bl)))
      (pss_cons (ps_set (i := 5) scWi.nd rfl (.inl rfl) (pe_callTy (call_list_dT (by rfl)) (by rfl) mli (by decide +kernel) (pa_cons (pv 4) pa_nil)))
      (pss_cons (ps_while PassesOwn.never (pt_cmpR op_gt (pe_callB call_len_seq (by rfl) ml PySem.boot_len (pa_cons (pv 5) pa_nil)) pe_int (nomark _)) (pss_cons (ps_setLc (i := 5) (own := [("pair", 3)]) (g := gName 3) (by rfl) scWi.nd rfl rfl (sw_true rfl rfl rfl (by decide +kernel)) (pi_tup (pe_call OF hr (by rfl) Fl.m Fl.F.kp Fl.b .nil pass0 (pa_cons (pv 0) (pa_cons (pv 5) pa_nil)))) (blkOk_by (own := [("pair", 3)]) (N := nWi) (sc := defScope (topS 27)) (by decide +kernel)) (fun _ _ _ _ _ => (pg_name (i := 3) scWi.nd rfl (Or.inl rfl))) (fun _ _ _ _ _ => (pts_one (PW.pt (pw_and (pt_cmpR (r := rKeyD K true) (op_notInK hu) (pv 3) (pv 4) (by rfl)) (pw_and1 (pt_cmpR (r := rIn K true) op_notIn_seq (pe_ix (r := rIxT K) ix_tup (pv 3) pe_int (fun _ _ => rfl)) (pv 2) (by rfl))))))) (fun _ _ _ _ _ => (pv 3)))
      (pss_one (ps_for PassesOwn.never rfl (pi_list (pv 5)) (pg_name (i := 3) scWi.nd rfl (.inl rfl)) (pss_one (ps_dput hu (pv 4) (pv 3) pe_bl rfl))))))
      (pss_one (ps_ret (pe_call OA (hr.mono (by decide)) (by rfl) As.m As.F.kp As.b .nil pass0 (pa_cons (pv 4) pa_nil))))))), ?_⟩
    obtain ⟨G, lo, few12⟩ := C
    refine asg_seq ⟨w0, rfl, .int p, rfl, w0, g, p, rfl, pg, G, fun q1 y1 H1 s1 e1 h1 => ⟨q1, rfl, ⟨_, .inl (.inl e1)⟩, fun D nD => ?_⟩⟩
    have nDH : H D = none := s1.free nD
    have ly := h1.len
    refine dcT_it (walk_tup (K := K) (a := q1) (xs := y1)) (fun i F => Same H1 F ∧ F D = some (.dT (((firstF g p).take i).map kEnt))) ⟨same_new nD, upd_same⟩ (fun i F _ z => .inl (.inl (z.1 _ _ e1))) ?_ ?_
    · rintro i x F F' hi ⟨sF, eF⟩ ⟨rfl, hx⟩
      obtain ⟨s0, hs0, pp, rfl, hpp⟩ := h1.get hx
      have tk : (firstF g p).take (i + 1) = (firstF g p).take i ++ [s0] := by rw [List.take_add_one, hs0]; rfl
      have nd := (GoodF.first G (p := p)).nd
      have ni : s0 ∉ (firstF g p).take i := fun m => by
        have z : ((firstF g p).take (i + 1)).Nodup := nd.sublist (List.take_sublist _ _)
        rw [tk] at z
        exact (List.nodup_append.mp z).2.2 s0 m s0 (List.mem_singleton.mpr rfl) rfl
      refine ⟨rfl, ?_⟩
      dsimp only [tYes]
      refine iteT ⟨.ref pp, rfl, _, DPut.t (k := kS s0) eF (sF _ _ hpp) ?_, ?_⟩
      · rw [List.length_map]
        exact Nat.lt_of_le_of_lt (List.length_take_le' ..) (Nat.lt_of_le_of_lt (show (firstF g p).length ≤ 1 by unfold firstF; split; exact Nat.le_refl 1; exact Nat.zero_le 1) (by decide))
      · rw [put_ent ni, ← tk]
        exact ⟨putS sF nD, upd_same⟩
    intro F1 ⟨sF, eF⟩
    rw [ly, List.take_length] at eF
    dsimp only [gName, List.set]
    have sHF := s1.trans sF
    refine asg_seq ⟨.ref D, rfl, D, _, rfl, .inl eF, fun l bs nl ik => ?_⟩
    dsimp only [gName, List.set]
    have s3 := same_new (o := .lst (bs.map V.ref)) nl
    have hk := (keys_prs ik).ts (ts_same s3)
    have el : (upd F1 l (.lst (bs.map V.ref))) l = some (.lst (bs.map V.ref)) := upd_same
    have eD := s3 _ _ eF
    have sH3 := sHF.trans s3
    generalize upd F1 l (.lst (bs.map V.ref)) = F2 at el eD sH3 hk ⊢
    refine seq_mid (fun σ G' => ∃ (y3 : Option V) (l : Addr) (fs : List (Str × Int)), σ = [some w0, some (.int p), some (.ref q0), y3, some (.ref D), some (.ref l)] ∧ Same H G' ∧ G' D = some (.dT (fs.map kEnt)) ∧ Wide g p fs []) ?_ ?_
    · rintro σ G' ⟨y3, l, fs, rfl, sG, eDG, W⟩
      have few := W.few G lo few12
      exact ⟨.ref D, rfl, D, fs, rfl, eDG, few.1, fun q9 ys9 rs9 H9 s9 e9 h9 asc mem => q q9 ys9 rs9 H9 (sG.trans s9) e9 h9 asc fun s => (mem s).trans (W.done G lo s)⟩
    · intro R k
      refine ⟨fun m σ G' => ∃ (y3 : Option V) (l : Addr) (ys : List V) (fs fr : List (Str × Int)), m = 2 * (13 - fs.length) + (if fr = [] then 0 else 1) ∧ σ = [some w0, some (.int p), some (.ref q0), y3, some (.ref D), some (.ref l)] ∧ Same H G' ∧ G' D = some (.dT (fs.map kEnt)) ∧ G' l = some (.lst ys) ∧ PrsAt G' ys fr ∧ Wide g p fs fr,
        ⟨_, none, l, _, firstF g p, firstF g p, rfl, rfl, sH3, eD, el, hk, Wide.first G p⟩, ?_⟩
      rintro m σ G2 ⟨y3, l, ys, fs, fr, rfl, rfl, sG, eDG, elG, hy, W⟩
      obtain ⟨fw1, fw2⟩ := W.few G lo few12
      have lys := hy.len
      refine ⟨.ref l, rfl, l, ys, rfl, .inl (.inl (.inl elG)), (ys.length : Nat), 0, rfl, rfl, _, rfl, ?_⟩
      by_cases em : fr = []
      · subst em
        have e0 : ys.length = 0 := lys
        rw [decide_eq_false (show ¬ (0 : Int) < (ys.length : Nat) by omega)]
        exact iteF (k _ _ ⟨y3, l, fs, rfl, sG, eDG, W⟩)
      · have pos : 0 < fr.length := List.length_pos_iff.mpr em
        rw [decide_eq_true (show (0 : Int) < (ys.length : Nat) by omega)]
        refine iteT ⟨fun σ' H' => ∃ m', m' < 2 * (13 - fs.length) + (if fr = [] then 0 else 1) ∧ ∃ (y3 : Option V) (l : Addr) (ys : List V) (fs fr : List (Str × Int)), m' = 2 * (13 - fs.length) + (if fr = [] then 0 else 1) ∧ σ' = [some w0, some (.int p), some (.ref q0), y3, some (.ref D), some (.ref l)] ∧ Same H H' ∧ H' D = some (.dT (fs.map kEnt)) ∧ H' l = some (.lst ys) ∧ PrsAt H' ys fr ∧ Wide g p fs fr, fun σ' H' z => z, ?_⟩
        rw [if_neg em]
        refine asg_seq ⟨w0, rfl, .ref l, rfl, w0, l, g, ys, fr, rfl, pg.same sG, G, .inl (.inl elG), hy, by omega, fun s hs => W.okP G lo s (W.sub s hs), fun q2 zs rs G3 s4 e4 h4 ndr mem => ⟨q2, rfl, ⟨_, .inl (.inl e4)⟩, fun E nE => ?_⟩⟩
        have s24 := s4
        have sG3 := sG.trans s4
        have eD3 := s4 _ _ eDG
        obtain ⟨cs, c1, c2, hcs⟩ := prs_zip h4
        subst c1
        have lcs : cs.length = rs.length := by rw [← c2, List.length_map]
        have frs : rs.length ≤ 12 := Nat.le_trans (nodup_sub ndr (W.next G lo mem)) few12
        refine lc_sel (walk_tup (K := K) (a := q2) (xs := cs.map (·.1))) cs (fun c => if decide (c.2 ∉ fs) = true then some c.1 else none) nE (by rw [List.length_map]) (by rw [List.length_map]; omega) (fun G' s => .inl (.inl (s _ _ e4))) ?_ ?_
        · intro j x c G' N Y hx hc sm no yes
          obtain rfl : c.1 = x := by
            rw [List.getElem?_map, hc] at hx
            exact Option.some.inj hx
          have cm := List.mem_of_getElem? hc
          obtain ⟨pp, ep, hpp⟩ := (hcs c cm).ts (ts_same sm)
          refine ⟨rfl, c.1, rfl, .ref D, rfl, pp, D, kS c.2, _, ep, .inl (.inl hpp), rfl, sm _ _ eD3, _, rfl, ?_⟩
          rw [val_ent, Bool.bne_true]
          rw [decide_not] at no yes
          by_cases m : c.2 ∈ fs
          · rw [decide_eq_true m] at no yes ⊢
            exact iteF (no G' (Same.refl G') rfl)
          · rw [decide_eq_false m] at no yes ⊢
            exact iteT ⟨c.1, rfl, pp, _, 0, .str c.2.1, ep, rfl, .inl (.inl hpp), atI_nat (j := 0) rfl, .ref q0, rfl, q0, [], rfl, .inr (.inl (.inl ((sG3.trans sm) _ _ h0))), rfl, rfl, _, rfl, iteT ⟨c.1, rfl, yes c.1 G' (Same.refl G') rfl⟩⟩
        · intro G4 s5 eE
          rw [fm_if] at eE
          dsimp only [gName, List.set]
          have sG4 := sG3.trans s5
          have eD4 := s5 _ _ eD3
          have nED : D ≠ E := ne_of_none eD3 nE
          have W2 := W.step G ndr mem
          have efr : (cs.filter fun c => decide (c.2 ∉ fs)).map (·.2) = rs.filter fun s => decide (s ∉ fs) := by
            rw [← c2, List.filter_map]
            rfl
          have hf : PrsAt G4 ((cs.filter fun c => decide (c.2 ∉ fs)).map (·.1)) (rs.filter fun s => decide (s ∉ fs)) := by
            rw [← efr]
            exact prs_of_cs fun c hc => (hcs c (List.mem_filter.mp hc).1).ts (ts_same s5)
          generalize (cs.filter fun c => decide (c.2 ∉ fs)).map (·.1) = zs at eE hf
          have fw3 := W2.few G lo few12
          have nd3 := W2.good.nd
          generalize (rs.filter fun s => decide (s ∉ fs)) = fr' at W2 hf fw3 nd3
          have lz := hf.len
          refine ⟨.ref E, rfl, E, rfl, ⟨_, .inl (.inl eE)⟩, ?_⟩
          refine for_it (walk_list (K := K) (a := E) (xs := zs)) (fun i σ G' => ∃ y3 : Option V, σ = [some w0, some (.int p), some (.ref q0), y3, some (.ref D), some (.ref E)] ∧ Same H G' ∧ G' D = some (.dT ((fs ++ fr'.take i).map kEnt)) ∧ G' E = some (.lst zs) ∧ PrsAt G' zs fr')
            ⟨_, rfl, sG4, by rw [List.take_zero, List.append_nil]; exact eD4, eE, hf⟩ (fun i σ G' _ ⟨_, _, _, _, z, _⟩ => .inl (.inl z)) ?_ ?_
          · rintro i x σ G0 G' hi ⟨y3', rfl, sG', eD', eE', hf'⟩ ⟨rfl, hx⟩
            obtain ⟨s0, hs0, pp, rfl, hpp⟩ := hf'.get hx
            have tk : fr'.take (i + 1) = fr'.take i ++ [s0] := by rw [List.take_add_one, hs0]; rfl
            have ni : s0 ∉ fs ++ fr'.take i := fun m => by
              have z : (fs ++ fr'.take (i + 1)).Nodup := nd3.sublist (List.Sublist.append (List.Sublist.refl _) (List.take_sublist _ _))
              rw [tk, ← List.append_assoc] at z
              exact (List.nodup_append.mp z).2.2 s0 m s0 (List.mem_singleton.mpr rfl) rfl
            have ts1 : TS G' (upd G' D (.dT ((fs ++ fr'.take (i + 1)).map kEnt))) := ⟨fun b xs h => by
              rw [upd_ne (fun e => by rw [e, eD'] at h; cases h)]
              exact h, fun b o xs h => by
              rw [upd_ne (fun e => by rw [e, eD'] at h; cases h)]
              exact h⟩
            refine ⟨.ref D, rfl, .ref pp, rfl, D, _, rfl, DPut.t (k := kS s0) eD' hpp ?_, ?_⟩
            · rw [List.length_map]
              refine Nat.lt_of_le_of_lt (show _ ≤ 24 from ?_) (by decide)
              rw [List.length_append, List.length_take]
              rw [List.length_append] at fw3
              omega
            · rw [put_ent ni, List.append_assoc, ← tk]
              exact ⟨_, rfl, putS sG' nDH, upd_same, (upd_ne (Ne.symm nED)).trans eE', hf'.ts ts1⟩
          · rintro σ G' ⟨y3', rfl, sG', eD', eE', hf'⟩
            rw [lz, List.take_length] at eD'
            refine ⟨_, ?_, y3', E, zs, fs ++ fr', fr', rfl, rfl, sG', eD', eE', hf', W2⟩
            rw [List.length_append]
            by_cases e : fr' = []
            · rw [if_pos e, e]
              show 2 * (13 - (fs.length + 0)) + 0 < _
              omega
            · rw [if_neg e]
              have : 0 < fr'.length := List.length_pos_iff.mpr e
              rw [List.length_append] at fw3
              omega
end
end Kn


/-! Kn: sorted of a list of tuples whose first is (). -/
namespace Kn
open PySem PySem.Spec PyProof.Rows L2
open PySem.W (dataLe dataLt keyToks keyToksAll alike alikeAll AllAlike EachIs dataKind dataKind_some dataKind_inv SortsAt)
section
variable {prog : Program} {w : World} {A : Around} {s : Shared} {E : Value → Shared → Prop}
/-- a tuple of alike data before another, by tuple.__lt__ called itself -/
theorem tup_before {xs ys : List PyData} {a b : Value} {as bs : List Addr} {Q : Bool → Shared → Prop} (ra : Reads s.heap a (.tuple xs) as) (rb : Reads s.heap b (.tuple ys) bs) (al : alike (.tuple xs) (.tuple ys) = true)
    (room : A.units + min (PyData.tuple xs).depth (PyData.tuple ys).depth < cLine) (q : Q (dataLt (.tuple xs) (.tuple ys)) s) : wpAny (model prog w) A (oneLt' true a b) Q E s := by
  have hal : alikeAll xs ys = true := by simpa [alike] using al
  cases ra with
  | @tuple l o vs n _ cs h1 h2 h3 h4 =>
    cases rb with
    | @tuple l' o' us n' _ ds k1 k2 k3 k4 =>
      have n1 : vs.size = xs.length := by simpa using SeqAt.ReadsAll.length _ _ _ h4
      have n2 : us.size = ys.length := by simpa using SeqAt.ReadsAll.length _ _ _ k4
      rw [PySem.W.dataLt_tuple, ← PySem.W.firstLt_toks xs ys hal, ← n1, ← n2] at q
      rw [oneLt'_eq]
      simp only [if_true]
      refine wpAny_bind (wpAny_cRoomFor (SeqAt.room_here room) ?_)
      refine wpAny_bind (wpAny_callSpecialIfBound?_slot (T := "tuple") ⟨_, h1, h2⟩ F.slot_tuple_lt ?_)
      obtain ⟨cl, dd, data, sl⟩ := o
      obtain ⟨cl2, dd2, data2, sl2⟩ := o'
      simp only at h2 h3 k2 k3
      subst h2 h3 k2 k3
      refine call_meets F.slot_tuple_lt ⟨_, h1, rfl⟩ F.entry_tuple_lt (F.args_tuple_lt_2 _ _) (SeqAt.tuple_ltAt l l' vs us n n' dd dd2 sl sl2 (SeqAt.pairEq xs ys) fun j => dataLt (xs.getD j .none) (ys.getD j .none)) ⟨h1, k1, fun j j1 j2 => ?_, fun j j1 j2 hj => ?_, ?_⟩
      · have := PySem.W.eqAt_alikeAll xs ys A.in1 s vs.toList us.toList _ _ h4 k4 hal (SeqAt.room_in room) j (by simpa using j1) (by simpa using j2)
        simpa using this
      · have := PySem.W.rcLt_alikeAll xs ys A.in1 s vs.toList us.toList _ _ h4 k4 hal (SeqAt.room_in room) j (by simpa using j1) (by simpa using j2) hj
        simpa using this
      · exact wpAny_truthy_bool q
theorem mapM_free {M : Model} {α β : Type} {f : α → Sem β} : ∀ (l : List α) {Q : List β → Shared → Prop}, (∀ v ∈ l, ∀ (R : β → Shared → Prop), (∀ r, R r s) → wpAny M A (f v) R E s) → (∀ rs, Q rs s) → wpAny M A (l.mapM f) Q E s
  | [], _, _, q => by
    rw [List.mapM_nil]
    exact wpAny_pure (q [])
  | x :: l, Q, each, q => by
    rw [List.mapM_cons]
    exact wpAny_bind (each x (.head _) _ fun r => wpAny_bind (mapM_free l (fun v hv => each v (.tail _ hv)) fun rs => wpAny_pure (q (r :: rs))))
theorem tup_items {v : Value} {xs : List PyData} {as : List Addr} (r : Reads s.heap v (.tuple xs) as) : ∃ (a : Addr) (o : Obj) (its : Array Value) (n : Nat), v = .ref a ∧ s.heap.get? a = some o ∧ o.cls = .type "tuple" ∧ o.data = .seq its n ∧ its.size = xs.length := by
  cases r with
  | @tuple l o vs n _ cs h1 h2 h3 h4 => exact ⟨l, o, vs, n, rfl, h1, h2, h3, by simpa using SeqAt.ReadsAll.length _ _ _ h4⟩
theorem kind_empty {v0 v1 : Value} {rest : List Value} {as0 : List Addr} {Q : SortKind → Shared → Prop} (r0 : Reads s.heap v0 (.tuple []) as0) (all : ∀ v ∈ v1 :: rest, ∃ xs as, Reads s.heap v (.tuple xs) as) (q : Q oneType' s) :
    wpAny (model prog w) A (keyKind' (v0 :: v1 :: rest).toArray) Q E s := by
  have looks : ∀ v ∈ v0 :: v1 :: rest, PySem.W.Looks (model prog w) s.heap (typeOf v) (Value.type "tuple") := fun v hv => by
    rcases List.mem_cons.mp hv with rfl | hv
    · exact PySem.W.looks_reads r0
    · obtain ⟨xs, as, r⟩ := all v hv
      exact PySem.W.looks_reads r
  rw [keyKind'_eq, List.mapM_toArray, map_eq_pure_bind]
  have isTup : ¬ ((Value.type "tuple" != Value.type "tuple") = true) := by decide
  have first : ∀ v ∈ v0 :: v1 :: rest, ∀ (a : Addr) (o : Obj) (its : Array Value) (n : Nat) (R : Option Value → Shared → Prop), v = .ref a → s.heap.get? a = some o → o.data = .seq its n → R its[0]? s → wpAny (model prog w) A (firstOfTuple' v) R E s := by
    intro v hv a o its n R ev ho hd hR
    rw [PySem.W.kas_first_eq]
    refine wpAny_bind ((looks v hv).here ?_)
    rw [if_neg isTup]
    subst ev
    exact wpAny_bind (listItems_at ho hd (wpAny_pure hR))
  obtain ⟨a0, o0, its0, n0, e0, h0, _, d0, z0⟩ := tup_items r0
  refine wpAny_bind (wpAny_bind ?_)
  rw [List.mapM_cons]
  refine wpAny_bind (first v0 (.head _) a0 o0 its0 n0 _ e0 h0 d0 ?_)
  have e1 : its0[0]? = none := by
    rw [Array.getElem?_eq_none_iff]
    rw [z0]
    exact Nat.le_refl 0
  rw [e1]
  refine wpAny_bind (mapM_free _ (fun v hv R hR => ?_) fun rs => wpAny_pure (wpAny_pure ?_))
  · obtain ⟨xs, as, r⟩ := all v hv
    obtain ⟨a, o, its, n, ev, ho, _, hd, _⟩ := tup_items r
    exact first v (.tail _ hv) a o its n R ev ho hd (hR _)
  · rw [if_neg (by simp), if_neg (by simp)]
    rw [oneTypeOnly'_eq, List.mapM_toArray, map_eq_pure_bind]
    refine wpAny_bind (wpAny_bind (wpAny_bind (PySem.W.kas_mapM (r := Value.type "tuple") _ (fun v hv Q' hq => (looks v hv).here hq) (wpAny_pure ?_))))
    have same : ((List.map (fun _ => Value.type "tuple") (v0 :: v1 :: rest)).toArray.all fun x => x == Value.type "tuple") = true := by
      simp only [List.all_toArray, List.all_map, List.all_eq_true]
      intro _ _
      rfl
    have h0 : (List.map (fun _ => Value.type "tuple") (v0 :: v1 :: rest)).toArray[0]? = some (Value.type "tuple") := by simp
    rw [h0]
    simp only [same, if_true]
    exact wpAny_pure (wpAny_pure q)
theorem sorts_empty {vs : List Value} {ds : List PyData} (e : EachIs (fun v d => ∃ as, Reads s.heap v d as) vs ds) (al : AllAlike ds) (h0 : ∃ r, ds = .tuple [] :: r) (ht : ∀ d, d ∈ ds → ∃ xs, d = .tuple xs) (room : ∀ d, d ∈ ds → A.units + d.depth < cLine) :
    SortsAt prog w A s (dataKind s.heap ds) vs := by
  refine ⟨fun v hv => ?_, oneType', fun E x y a b Q ha hb q => ?_, fun two E Q q => ?_⟩
  · obtain ⟨d, hd, as, r⟩ := e.left v hv
    exact ⟨_, dataKind_some al hd r⟩
  · obtain ⟨d, as, hd, ra, rfl⟩ := dataKind_inv ha
    obtain ⟨d', as', hd', rb, rfl⟩ := dataKind_inv hb
    obtain ⟨xs, rfl⟩ := ht d hd
    obtain ⟨ys, rfl⟩ := ht d' hd'
    rw [keyLt'_oneType]
    exact tup_before ra rb (al _ hd _ hd') (Nat.lt_of_le_of_lt (Nat.add_le_add_left (Nat.min_le_left _ _) _) (room _ hd)) q
  · obtain ⟨r, rfl⟩ := h0
    match vs, e, two with
    | v0 :: v1 :: rest, .cons ⟨as, r0⟩ t, _ =>
      refine kind_empty r0 (fun v hv => ?_) q
      obtain ⟨d, hd, bs, rv⟩ := t.left v hv
      obtain ⟨xs, rfl⟩ := ht d (List.mem_cons_of_mem _ hd)
      exact ⟨xs, bs, rv⟩
end
section
variable {X : Cx}
def rSortedE (K : PySem.W.Frag) : List V → Hp → VK → Prop := fun vs H Q => ∃ (a : Addr) (ps : List VD), vs = [.ref a] ∧ SqL K H a (ps.map (·.1)) ∧ (∀ p ∈ ps, Dp K H p.1 p.2 ∧ p.2.depth ≤ 8) ∧ AllAlike (ps.map (·.2)) ∧ (∃ r, ps.map (·.2) = .tuple [] :: r) ∧ (∀ p ∈ ps, ∃ xs, p.2 = .tuple xs) ∧
  ∀ (l : Addr) (qs : List VD), H l = none → qs.Perm ps → Q (.ref l) (upd H l (.lst (qs.map (·.1))))
theorem cr_sortedE (hu : X.A.units + 64 < cLine) : CallR X (.builtin "sorted") (rSortedE X.K) := by
  intro pins s σ H vs us Q I r h
  obtain ⟨a, ps, rfl, ha, hp, al, h0, ht, q⟩ := h
  rw [Vals.ref1 r]
  obtain ⟨its, rv, pl, hz⟩ := I.list ha
  obtain ⟨e1, e2⟩ := each_vals (s := s) rv fun p hpm u ru => Dp.reads I p.2 p.1 u (hp p hpm).1 ru
  have er : EachIs (fun v (b : VD) => ∃ as, Reads (PySem.W.sortingHeap (PySem.W.copyHeap s.heap its) (s.heap.objs.size + 1) its) v b.2 as) its ps := e2.mono fun _ _ ⟨as, r⟩ => ⟨as, PyProof.Rows.Reads.keeps (fun _ _ => PySem.W.sorting_copy_old) r⟩
  have out : ∀ outs : List Value, outs.length = ps.length → EachIs (fun v (b : VD) => RelV b.1 v) outs (ps.mergeSort (dataLe false fun p : VD => p.2)) → EP X pins σ Q (.ref (s.heap.objs.size + 1)) { s with heap := sortedAll s.heap its (List.toArray outs) } := by
    intro outs lo eo
    have vo := vals_each eo
    have pm := List.mergeSort_perm ps (dataLe false fun p : VD => p.2)
    generalize ps.mergeSort (dataLe false fun p : VD => p.2) = qs at vo pm
    obtain ⟨c, hc⟩ := sortedAll_at s.heap its (List.toArray outs)
    have len : (qs.map (·.1)).length ≤ sizeLine := by
      rw [List.length_map, pm.length_eq]
      rwa [List.length_map] at hz
    have fresh : H (s.heap.objs.size + 1) = none := I.hok.fresh (Nat.le_succ _)
    exact ⟨.ref _, upd H (s.heap.objs.size + 1) (.lst (qs.map (·.1))), I.laid (t' := s.toks) (fun b o e => sortedAll_old e) (Nat.le_succ _) ⟨len, outs, c, vo, hc⟩, rfl, q _ qs fresh pm⟩
  refine PySem.W.sorted_vals pl.isList (sorts_empty (s := { s with heap := PySem.W.sortingHeap (PySem.W.copyHeap s.heap its) (s.heap.objs.size + 1) its }) (PySem.W.each_map (R := fun v d => ∃ as, Reads (PySem.W.sortingHeap (PySem.W.copyHeap s.heap its) (s.heap.objs.size + 1) its) v d as) (fun p : VD => p.2) er) al h0 (fun d hd => ?_) (fun d hd => ?_)) (by rw [e1.length]; rwa [List.length_map] at hz)
    (out _ (by rw [PySem.W.sortVals_length false rfl]; exact e1.length) (PySem.W.sortVals_data false e1 er al))
  · obtain ⟨p, hpm, rfl⟩ := List.mem_map.mp hd
    exact ht p hpm
  · obtain ⟨p, hpm, rfl⟩ := List.mem_map.mp hd
    have := (hp p hpm).2
    show X.A.units + 2 + p.2.depth < cLine
    omega
end
end Kn


/-! Kn: sorted of a list of tuples whose first is (), with its order. -/
namespace Kn
open PySem PySem.Spec PyProof.Rows L2
open PySem.W (dataLe dataLt keyToks keyToksAll alike alikeAll AllAlike EachIs dataKind dataKind_some dataKind_inv SortsAt)
section
variable {X : Cx}
def rSortedEO (K : PySem.W.Frag) : List V → Hp → VK → Prop := fun vs H Q => ∃ (a : Addr) (ps : List VD), vs = [.ref a] ∧ SqL K H a (ps.map (·.1)) ∧ (∀ p ∈ ps, Dp K H p.1 p.2 ∧ p.2.depth ≤ 8) ∧ AllAlike (ps.map (·.2)) ∧ (∃ r, ps.map (·.2) = .tuple [] :: r) ∧ (∀ p ∈ ps, ∃ xs, p.2 = .tuple xs) ∧
  ∀ (l : Addr) (qs : List VD), H l = none → qs.Perm ps → qs.Pairwise (fun x y => leD (fun p : VD => p.2) x y = true) → Q (.ref l) (upd H l (.lst (qs.map (·.1))))
theorem cr_sortedEO (hu : X.A.units + 64 < cLine) : CallR X (.builtin "sorted") (rSortedEO X.K) := by
  intro pins s σ H vs us Q I r h
  obtain ⟨a, ps, rfl, ha, hp, al, h0, ht, q⟩ := h
  rw [Vals.ref1 r]
  obtain ⟨its, rv, pl, hz⟩ := I.list ha
  obtain ⟨e1, e2⟩ := each_vals (s := s) rv fun p hpm u ru => Dp.reads I p.2 p.1 u (hp p hpm).1 ru
  have er : EachIs (fun v (b : VD) => ∃ as, Reads (PySem.W.sortingHeap (PySem.W.copyHeap s.heap its) (s.heap.objs.size + 1) its) v b.2 as) its ps := e2.mono fun _ _ ⟨as, r⟩ => ⟨as, PyProof.Rows.Reads.keeps (fun _ _ => PySem.W.sorting_copy_old) r⟩
  have out : ∀ outs : List Value, outs.length = ps.length → EachIs (fun v (b : VD) => RelV b.1 v) outs (ps.mergeSort (dataLe false fun p : VD => p.2)) → EP X pins σ Q (.ref (s.heap.objs.size + 1)) { s with heap := sortedAll s.heap its (List.toArray outs) } := by
    intro outs lo eo
    have vo := vals_each eo
    have pm := List.mergeSort_perm ps (dataLe false fun p : VD => p.2)
    have pw : (ps.mergeSort (dataLe false fun p : VD => p.2)).Pairwise (fun x y => leD (fun p : VD => p.2) x y = true) := sorted_le _ _
    generalize ps.mergeSort (dataLe false fun p : VD => p.2) = qs at vo pm pw
    obtain ⟨c, hc⟩ := sortedAll_at s.heap its (List.toArray outs)
    have len : (qs.map (·.1)).length ≤ sizeLine := by
      rw [List.length_map, pm.length_eq]
      rwa [List.length_map] at hz
    have fresh : H (s.heap.objs.size + 1) = none := I.hok.fresh (Nat.le_succ _)
    exact ⟨.ref _, upd H (s.heap.objs.size + 1) (.lst (qs.map (·.1))), I.laid (t' := s.toks) (fun b o e => sortedAll_old e) (Nat.le_succ _) ⟨len, outs, c, vo, hc⟩, rfl, q _ qs fresh pm pw⟩
  refine PySem.W.sorted_vals pl.isList (sorts_empty (s := { s with heap := PySem.W.sortingHeap (PySem.W.copyHeap s.heap its) (s.heap.objs.size + 1) its }) (PySem.W.each_map (R := fun v d => ∃ as, Reads (PySem.W.sortingHeap (PySem.W.copyHeap s.heap its) (s.heap.objs.size + 1) its) v d as) (fun p : VD => p.2) er) al h0 (fun d hd => ?_) (fun d hd => ?_)) (by rw [e1.length]; rwa [List.length_map] at hz)
    (out _ (by rw [PySem.W.sortVals_length false rfl]; exact e1.length) (PySem.W.sortVals_data false e1 er al))
  · obtain ⟨p, hpm, rfl⟩ := List.mem_map.mp hd
    exact ht p hpm
  · obtain ⟨p, hpm, rfl⟩ := List.mem_map.mp hd
    have := (hp p hpm).2
    show X.A.units + 2 + p.2.depth < cLine
    omega
end
end Kn


namespace Kn
open PySem PySem.Spec PyProof.Rows L2
abbrev nSu : List Str := ["_law_items", "_law_found", "_law_own", "_law_part"]
theorem scSu : FnScope nSu ["_law_items"] (defScope (topS 53)) := ⟨rfl, rfl, rfl, by decide +kernel, rfl, by decide +kernel, by decide +kernel⟩
/-- a list of tuples of pairs -/
def TupsAt (K : PySem.W.Frag) (H : Hp) (vs : List V) (qs : List (List (Str × Int))) : Prop := DpAll K H vs (qs.map fun q => PyData.tuple (q.map dPr))
theorem dp_prs {K : PySem.W.Frag} {H H' : Hp} (t : TS H H') : ∀ {vs : List V} {ps : List (Str × Int)}, DpAll K H vs (ps.map dPr) → DpAll K H' vs (ps.map dPr)
  | _, [], .nil => .nil
  | _, s :: r, .cons a b => by
    obtain ⟨p, rfl, h⟩ := pr_seq a
    exact .cons (.tup (tupT t h) (.cons (.str _) (.cons (.int _) .nil))) (dp_prs t b)
theorem dp_tup1 {K : PySem.W.Frag} {H H' : Hp} (t : TS H H') {v : V} {q : List (Str × Int)} (h : Dp K H v (.tuple (q.map dPr))) : Dp K H' v (.tuple (q.map dPr)) := by
  obtain ⟨p, xs, rfl, hT, hds, _⟩ := tupD h
  exact .tup (tupT t hT) (dp_prs t hds)
theorem dp_tups {K : PySem.W.Frag} {H H' : Hp} (t : TS H H') : ∀ {vs : List V} {qs : List (List (Str × Int))}, DpAll K H vs (qs.map fun q => PyData.tuple (q.map dPr)) → DpAll K H' vs (qs.map fun q => PyData.tuple (q.map dPr))
  | _, [], .nil => .nil
  | _, q :: r, .cons a b => .cons (dp_tup1 t a) (dp_tups t b)
theorem tups_lst {K : PySem.W.Frag} {G : Hp} {B : Addr} {acc : List V} {o : HO} {vs : List V} {qs : List (List (Str × Int))} (e : G B = some (.lst acc)) (h : DpAll K G vs (qs.map fun q => PyData.tuple (q.map dPr))) : DpAll K (upd G B o) vs (qs.map fun q => PyData.tuple (q.map dPr)) := dp_tups (ts_lst e) h
theorem prs_alike : ∀ ss tt : List (Str × Int), PySem.W.alike (.tuple (ss.map dPr)) (.tuple (tt.map dPr)) = true := by
  have z : ∀ ss tt : List (Str × Int), PySem.W.alikeAll (ss.map dPr) (tt.map dPr) = true := by
    intro ss
    induction ss with
    | nil => intro tt; cases tt <;> rfl
    | cons s r ih =>
      intro tt
      cases tt with
      | nil => rfl
      | cons t u =>
        show (PySem.W.alike (dPr s) (dPr t) && PySem.W.alikeAll (r.map dPr) (u.map dPr)) = true
        rw [ih u]
        rfl
  exact z
theorem dps_zip {K : PySem.W.Frag} {H : Hp} : ∀ {vs : List V} {ds : List PyData}, DpAll K H vs ds → ∃ cs : List VD, cs.map (·.1) = vs ∧ cs.map (·.2) = ds ∧ ∀ c ∈ cs, Dp K H c.1 c.2
  | _, _, .nil => ⟨[], rfl, rfl, fun _ h => by cases h⟩
  | v :: _, d :: _, .cons a b => by
    obtain ⟨cs, e1, e2, h⟩ := dps_zip b
    refine ⟨(v, d) :: cs, by rw [List.map_cons, e1], by rw [List.map_cons, e2], fun c hc => ?_⟩
    rcases List.mem_cons.mp hc with rfl | hc
    · exact a
    · exact h c hc
theorem dps_of {K : PySem.W.Frag} {H : Hp} : ∀ {cs : List VD}, (∀ c ∈ cs, Dp K H c.1 c.2) → DpAll K H (cs.map (·.1)) (cs.map (·.2))
  | [], _ => .nil
  | c :: cs, h => .cons (h c (List.mem_cons_self ..)) (dps_of fun x hx => h x (List.mem_cons_of_mem _ hx))
def subsL : List (Str × Int) → List (List (Str × Int)) → List (List (Str × Int))
  | [], acc => acc
  | s :: r, acc => subsL r (acc ++ acc.map fun q => q ++ [s])
def subs (ps : List (Str × Int)) : List (List (Str × Int)) := subsL ps [[]]
def spSu (K : PySem.W.Frag) : Sp := fun vs H Q _ => ∃ (q : Addr) (xs : List V) (ps : List (Str × Int)), vs = [.ref q] ∧ SqT K H q xs ∧ DpAll K H xs (ps.map dPr) ∧ ps.length ≤ 8 ∧ ps.Nodup ∧
  ∀ (l : Addr) (ys : List V) (qs : List (List (Str × Int))) (H' : Hp), Same H H' → H' l = some (.lst ys) → TupsAt K H' ys qs → (∀ x, x ∈ qs ↔ x.Sublist ps) → qs.length ≤ 256 → (qs.Nodup ∧ qs.Pairwise fun x y => PySem.W.dataLt (.tuple (y.map dPr)) (.tuple (x.map dPr)) = false) → Q (.ref l) H'
section
variable {P : Program} {w : World} {K : PySem.W.Frag} {mg : Str → Option Value} {base : Heap}
theorem ok_su {f : Addr} {fd : FuncData} (F : Fun K "_law_subsets" "_law_subsets" (topS 53) f fd) (mo : mg "sorted" = none) : FnOk P w K mg base CX0 1 f fd ["_law_items"] (spSu K) := by
  refine F.ok scSu (fun vs H Q E h => ?_) (fun cdv A outer s H vs Q E hr h => ?_)
  · obtain ⟨q0, xs, ps, rfl, _⟩ := h
    rfl
  · obtain ⟨q0, xs, ps, rfl, hT, hd, few, ndp, q⟩ := h
    have hu := hr.units
    have lx : xs.length = ps.length := by rw [dsLen hd, List.length_map]
    refine ⟨_, (pss_cons (ps_set (i := 1) scSu.nd rfl (.inl rfl) (pe_lst (pa_cons (pe_tup pa_nil) pa_nil)))
      (pss_cons (ps_for PassesOwn.never rfl (pi_tup (pv 0)) (pg_name (i := 2) scSu.nd rfl (.inr rfl)) (pss_one (ps_set (i := 1) scSu.nd rfl (.inl rfl) (pe_op op_cat (pv 1) (pe_lc (own := [("_law_part", 3)]) (g := gName 3) (by rfl) scSu.nd (pi_list (pv 1)) (blkOk_by (own := [("_law_part", 3)]) (N := nSu) (sc := defScope (topS 53)) (by decide +kernel)) (fun _ _ _ _ _ => pg_name (i := 3) scSu.nd rfl (Or.inl rfl)) (fun _ _ _ _ _ => pts_nil) (fun _ _ _ _ _ => (pe_op (r := rCatA K) op_catA (pv 3) (pe_tup (pa_cons (pv 2) pa_nil)))))))))
      (pss_one (ps_ret (pe_callB (cr_sortedEO hu) (by rfl) mo (by decide +kernel) (pa_cons (pv 1) pa_nil)))))), ?_⟩
    refine asg_seq ⟨(show 0 ≤ sizeLine by decide), fun te ne => ⟨(show 1 ≤ sizeLine by decide), fun L nL => ?_⟩⟩
    dsimp only [gName]
    have s1 := (same_new (o := .tup []) ne).trans (same_new (o := .lst [.ref te]) nL)
    have et : (upd (upd H te (.tup [])) L (.lst [.ref te])) te = some (.tup []) := (same_new nL) _ _ upd_same
    have eL : (upd (upd H te (.tup [])) L (.lst [.ref te])) L = some (.lst [.ref te]) := upd_same
    generalize upd (upd H te (.tup [])) L (.lst [.ref te]) = H1 at s1 et eL ⊢
    refine ⟨.ref q0, rfl, q0, rfl, ⟨_, tupS s1 hT⟩, ?_⟩
    refine for_it (walk_tup (K := K) (a := q0) (xs := xs)) (fun i σ G => ∃ (l : Addr) (y2 : Option V) (ys : List V) (qs : List (List (Str × Int))), σ = [some (.ref q0), some (.ref l), y2, none] ∧ Same H1 G ∧ G l = some (.lst ys) ∧ TupsAt K G ys ([] :: qs) ∧ (∀ x ∈ qs, x.Sublist (ps.take i)) ∧ qs.length + 1 = 2 ^ i ∧ (∀ x, x.Sublist (ps.take i) → x ∈ [] :: qs) ∧ ([] :: qs).Nodup)
      ⟨L, none, _, [], rfl, Same.refl _, eL, .cons (.tup (.inl (.inl et)) .nil) .nil, (fun x h => by cases h), rfl, fun x h => by rw [List.take_zero] at h; rw [List.sublist_nil.mp h]; exact List.mem_cons_self .., by simp⟩ (fun i σ G _ ⟨_, _, _, _, _, z, _⟩ => tupS (s1.trans z) hT) ?_ ?_
    · rintro i x σ G0 G hi ⟨l, y2, ys, qs, rfl, sG, el, hys, sub, len, all, ndq⟩ ⟨rfl, hx⟩
      obtain ⟨d, hdi, dp⟩ := dsAt hd i x hx
      obtain ⟨s0, hs, rfl⟩ := map_get hdi
      have p8 : 2 ^ i ≤ 256 := Nat.pow_le_pow_right (by decide) (show i ≤ 8 by omega)
      have ly : ys.length = qs.length + 1 := by rw [dsLen hys, List.length_map]; rfl
      refine ⟨.ref l, rfl, .ref l, rfl, l, rfl, ⟨_, .inl (.inl el)⟩, fun B nB => ?_⟩
      have dpB := dKeep (s1.trans sG) dp
      refine lc_it (walk_list (K := K) (a := l) (xs := ys)) (fun j G2 => Same G G2 ∧ ∃ acc, G2 B = some (.lst acc) ∧ acc.length = j ∧ TupsAt K G2 acc ((([] :: qs).take j).map fun q => q ++ [s0])) ⟨same_new nB, [], upd_same, rfl, .nil⟩ (fun j G2 _ h => .inl (.inl (h.1 _ _ el))) ?_ ?_
      · rintro j y G20 G2 hj ⟨sm, acc, eB, la, hacc⟩ ⟨rfl, hy⟩
        obtain ⟨d1, hd1, dp1⟩ := dsAt hys j y hy
        obtain ⟨part, hpart, rfl⟩ := map_get hd1
        obtain ⟨pp, zs, rfl, hTp, hdp, lz⟩ := tupD dp1
        have lpart : part.length ≤ 8 := by
          rcases List.mem_cons.mp (List.mem_of_getElem? hpart) with rfl | h
          · exact Nat.zero_le _
          · have := (sub part h).length_le
            rw [List.length_take] at this
            omega
        have lzs : zs.length = part.length := by rw [lz, List.length_map]
        have tk : (([] :: qs).take (j + 1)).map (fun q => q ++ [s0]) = (([] :: qs).take j).map (fun q => q ++ [s0]) ++ [part ++ [s0]] := by
          rw [List.take_add_one, hpart, List.map_append]
          rfl
        refine ⟨rfl, ?_⟩
        dsimp only [tYes]
        refine iteT ⟨.ref pp, rfl, x, rfl, (show 1 ≤ sizeLine by decide), fun t nt => ?_⟩
        have ne1 : B ≠ t := ne_of_none eB nt
        have sT := same_new (o := .tup [x]) nt
        have et2 : (upd G2 t (.tup [x])) t = some (.tup [x]) := upd_same
        have eB2 := sT _ _ eB
        generalize upd G2 t (.tup [x]) = G3 at sT et2 eB2 ⊢
        have sG3 := sm.trans sT
        have close : ∀ (r : Addr) (G4 : Hp), Same G3 G4 → G4 B = some (.lst acc) → Dp K G4 (.ref r) (.tuple ((part ++ [s0]).map dPr)) →
            ∃ acc', G4 B = some (.lst acc') ∧ acc'.length < sizeLine ∧ (fun G2 => Same G G2 ∧ ∃ acc, G2 B = some (.lst acc) ∧ acc.length = j + 1 ∧ TupsAt K G2 acc ((([] :: qs).take (j + 1)).map fun q => q ++ [s0])) (upd G4 B (.lst (acc' ++ [.ref r]))) := by
          intro r G4 s4 e4 hr4
          refine ⟨acc, e4, small' (by omega), putS (sG3.trans s4) nB, acc ++ [.ref r], upd_same, by rw [List.length_append, la]; rfl, ?_⟩
          rw [tk]
          refine tups_lst e4 ?_
          rw [List.map_append]
          exact dsApp (dsKeep (sT.trans s4) hacc) (.cons hr4 .nil)
        refine ⟨pp, t, zs, [x], rfl, rfl, tupS sG3 hTp, .inl (.inl et2), Nat.le_trans (show zs.length + [x].length ≤ 1000 by rw [List.length_singleton]; omega) (by decide), fun z0 => ?_, (fun _ z => absurd z (by simp)), fun z0 _ r nr => ?_⟩
        · have p0 : part = [] := List.eq_nil_of_length_eq_zero (by rw [← lzs, z0]; rfl)
          subst p0
          exact close t G3 (Same.refl _) eB2 (.tup (.inl (.inl et2)) (.cons (dKeep sG3 dpB) .nil))
        · have s5 := same_new (o := .tup (zs ++ [x])) nr
          refine close r _ s5 (s5 _ _ eB2) ?_
          rw [List.map_append]
          exact .tup (.inl (.inl upd_same)) (dsApp (dsKeep (sG3.trans s5) hdp) (.cons (dKeep (sG3.trans s5) dpB) .nil))
      · rintro G2 ⟨sm, acc, eB, la, hacc⟩
        have full : ([] :: qs).take ys.length = [] :: qs := List.take_of_length_le (by rw [ly]; exact Nat.le_refl _)
        rw [full] at hacc
        refine ⟨l, B, ys, acc, rfl, rfl, sm _ _ el, eB, Nat.le_trans (show ys.length + acc.length ≤ 1000 by omega) (by decide), fun l3 n3 => ?_⟩
        have s6 := same_new (o := .lst (ys ++ acc)) n3
        refine ⟨l3, _, ys ++ acc, qs ++ ([] :: qs).map (fun q => q ++ [s0]), rfl, (sG.trans sm).trans s6, upd_same, ?_, fun x hx => ?_, ?_, fun x hx => ?_, ?_⟩
        · have e : [] :: (qs ++ ([] :: qs).map (fun q => q ++ [s0])) = ([] :: qs) ++ ([] :: qs).map fun q => q ++ [s0] := rfl
          rw [e]
          unfold TupsAt
          rw [List.map_append]
          exact dsApp (dsKeep (sm.trans s6) hys) (dsKeep s6 hacc)
        · have tk : ps.take (i + 1) = ps.take i ++ [s0] := by rw [List.take_add_one, hs]; rfl
          rw [tk]
          rcases List.mem_append.mp hx with h | h
          · exact (sub x h).trans (List.sublist_append_left _ _)
          · obtain ⟨y, hy, rfl⟩ := List.mem_map.mp h
            refine List.Sublist.append ?_ (List.Sublist.refl _)
            rcases List.mem_cons.mp hy with rfl | hy
            · exact List.nil_sublist _
            · exact sub y hy
        · rw [List.length_append, List.length_map, List.length_cons, Nat.pow_succ]
          omega
        · have tk : ps.take (i + 1) = ps.take i ++ [s0] := by rw [List.take_add_one, hs]; rfl
          rw [tk] at hx
          obtain ⟨a, b, rfl, ha, hb⟩ := List.sublist_append_iff.mp hx
          have ma := all a ha
          have hb2 : b = [] ∨ b = [s0] := by
            cases hb with
            | cons _ h => exact .inl (List.sublist_nil.mp h)
            | cons_cons _ h => exact .inr (by rw [List.sublist_nil.mp h])
          rcases hb2 with rfl | rfl
          · rw [List.append_nil]
            rcases List.mem_cons.mp ma with e | m
            · rw [e]
              exact List.mem_cons_self ..
            · exact List.mem_cons_of_mem _ (List.mem_append_left _ m)
          · exact List.mem_cons_of_mem _ (List.mem_append_right _ (List.mem_map.mpr ⟨a, ma, rfl⟩))
        · have e : [] :: (qs ++ ([] :: qs).map (fun q => q ++ [s0])) = ([] :: qs) ++ ([] :: qs).map fun q => q ++ [s0] := rfl
          rw [e]
          refine List.nodup_append.mpr ⟨ndq, ?_, fun x hx y hy exy => ?_⟩
          · exact List.pairwise_map.mpr (ndq.imp fun {x y} h e => h (List.append_cancel_right e))
          · obtain ⟨z, _, rfl⟩ := List.mem_map.mp hy
            subst exy
            have m : s0 ∈ ps.take i := by
              rcases List.mem_cons.mp hx with e0 | h
              · simp at e0
              · exact (sub _ h).subset (List.mem_append_right _ (List.mem_singleton.mpr rfl))
            have tk : ps.take (i + 1) = ps.take i ++ [s0] := by rw [List.take_add_one, hs]; rfl
            have n2 : (ps.take (i + 1)).Nodup := ndp.sublist (List.take_sublist _ _)
            rw [tk] at n2
            exact (List.nodup_append.mp n2).2.2 s0 m s0 (List.mem_singleton.mpr rfl) rfl
    · rintro σ G ⟨l, y2, ys, qs, rfl, sG, el, hys, sub, len, all, ndq⟩
      have p8 : 2 ^ xs.length ≤ 256 := Nat.pow_le_pow_right (by decide) (show xs.length ≤ 8 by omega)
      rw [lx, List.take_length] at sub all
      have ly : ys.length = qs.length + 1 := by rw [dsLen hys, List.length_map]; rfl
      obtain ⟨cs, c1, c2, hcs⟩ := dps_zip hys
      have e2 : cs.map (·.2) = .tuple [] :: qs.map fun q => PyData.tuple (q.map dPr) := c2
      refine ⟨.ref l, rfl, l, cs, rfl, .inl (.inl (c1 ▸ el)), fun c hc => ⟨hcs c hc, ?_⟩, ?_, ⟨_, e2⟩, fun c hc => ?_, fun l2 rs nl pm pw => ?_⟩
      · have z : c.2 ∈ ([] :: qs).map fun q => PyData.tuple (q.map dPr) := c2 ▸ List.mem_map.mpr ⟨c, hc, rfl⟩
        obtain ⟨q1, _, e⟩ := List.mem_map.mp z
        rw [← e]
        have y := prs_deep q1
        have z2 : (PyData.tuple (q1.map dPr)).depth = PyData.depthAll (q1.map dPr) + 1 := rfl
        omega
      · rw [c2]
        intro d hd1 d' hd2
        obtain ⟨q1, _, rfl⟩ := List.mem_map.mp hd1
        obtain ⟨q2, _, rfl⟩ := List.mem_map.mp hd2
        exact prs_alike q1 q2
      · have z : c.2 ∈ ([] :: qs).map fun q => PyData.tuple (q.map dPr) := c2 ▸ List.mem_map.mpr ⟨c, hc, rfl⟩
        obtain ⟨q1, _, e⟩ := List.mem_map.mp z
        exact ⟨_, e.symm⟩
      · have pm2 : (rs.map (·.2)).Perm (([] :: qs).map fun q => PyData.tuple (q.map dPr)) := c2 ▸ pm.map _
        obtain ⟨qs2, pq, e⟩ := lift_perm _ _ pm2
        have s7 := same_new (o := .lst (rs.map (·.1))) nl
        refine q l2 _ qs2 _ (s1.trans (sG.trans s7)) upd_same ?_ (fun x => ⟨fun hx => ?_, fun hx => pq.mem_iff.mpr (all x hx)⟩) ?_ ⟨pq.nodup_iff.mpr ndq, ?_⟩
        · unfold TupsAt
          rw [← e]
          exact dps_of fun c hc => dKeep s7 (hcs c (pm.mem_iff.mp hc))
        · rcases List.mem_cons.mp (pq.mem_iff.mp hx) with rfl | h
          · exact List.nil_sublist _
          · exact sub x h
        · rw [pq.length_eq, List.length_cons]
          omega
        · have pw2 : (rs.map (·.2)).Pairwise fun x y => PySem.W.dataLt y x = false := List.pairwise_map.mpr (pw.imp fun {x y} h => by
            have z : (!PySem.W.dataLt y.2 x.2) = true := h
            simpa using z)
          rw [e] at pw2
          exact List.pairwise_map.mp pw2
end
end Kn


/-! Kn: a set of tuples of any one form, sorted: what comes of it. -/
namespace Kn
open PySem PySem.Spec PyProof.Rows L2
open PySem.W (dataLe dataLt AllAlike Sortable)
/-- a form of data that can stand in sets and be sorted -/
structure Form {α : Type} (dd : α → PyData) : Prop where
  key : ∀ x, keyB (dd x) = true ∧ (dd x).depth ≤ 8
  al : ∀ l : List α, AllAlike (l.map dd)
  so : ∀ l : List α, Sortable (l.map dd)
  inj : ∀ {x y : α}, keyD (dd x) = keyD (dd y) → x = y
section
variable {α : Type} {dd : α → PyData} {K : PySem.W.Frag} {w : World}
abbrev gcD (dd : α → PyData) (c : Addr × α) : Cell := (c.1, dd c.2)
def GC (K : PySem.W.Frag) (dd : α → PyData) (H : Hp) (cs : List (Addr × α)) : Prop := ∀ c ∈ cs, Dp K H (.ref c.1) (dd c.2)
theorem GC.same {H H' : Hp} {cs : List (Addr × α)} (h : GC K dd H cs) (s : Same H H') : GC K dd H' cs := fun c hc => dKeep s (h c hc)
theorem gc_all {H : Hp} : ∀ {cs : List (Addr × α)}, GC K dd H cs → DpAll K H (cs.map fun c => V.ref c.1) ((cs.map (·.2)).map dd)
  | [], _ => .nil
  | c :: r, h => .cons (h c (List.mem_cons_self ..)) (gc_all fun x hx => h x (List.mem_cons_of_mem _ hx))
theorem gc_of {H : Hp} (isRef : ∀ {v : V} {x : α}, Dp K H v (dd x) → ∃ p, v = .ref p) : ∀ {ys : List V} {ts : List α}, DpAll K H ys (ts.map dd) → ∃ cs : List (Addr × α), ys = cs.map (fun c => V.ref c.1) ∧ ts = cs.map (·.2) ∧ GC K dd H cs
  | _, [], .nil => ⟨[], rfl, rfl, fun _ h => by cases h⟩
  | _, s :: ts, .cons a b => by
    obtain ⟨p, rfl⟩ := isRef a
    obtain ⟨cs, e1, e2, h⟩ := gc_of isRef b
    refine ⟨(p, s) :: cs, by rw [List.map_cons, ← e1], by rw [List.map_cons, ← e2], fun c hc => ?_⟩
    rcases List.mem_cons.mp hc with rfl | hc
    · exact a
    · exact h c hc
/-- the items in order, each once -/
def OrdG (dd : α → PyData) (rs : List α) : Prop := rs.Nodup ∧ rs.Pairwise fun x y => dataLt (dd y) (dd x) = false
theorem sorted_endG (fo : Form dd) {cs : List (Addr × α)} {qs : List Cell} {a : Addr} {H : Hp} {R : VK} (pc : GC K dd H cs) (na : H a = none) (sub : ∀ q ∈ qs, q ∈ cs.map (gcD dd)) (all : ∀ p ∈ cs.map (gcD dd), keyD p.2 ∈ qs.map fun q => keyD q.2) (nd : (qs.map fun q => keyD q.2).Nodup)
    (fin : ∀ (l : Addr) (vs : List V) (rs : List α) (H' : Hp), Same H H' → H' l = some (.lst vs) → DpAll K H' vs (rs.map dd) → OrdG dd rs → (∀ s, s ∈ rs ↔ s ∈ cs.map (·.2)) → R (.ref l) H') : rSortedK K w [.ref a] (upd H a (SetK w a (qs.map memOf))) R := by
  obtain ⟨cq, rfl, hcq⟩ := lift_sub qs sub
  have s1 := same_new (o := SetK w a ((cq.map (gcD dd)).map memOf)) na
  refine ⟨a, cq.map (gcD dd), rfl, upd_same, fun p hp => ?_, ?_, ?_, fun l rs nl pm pw => ?_⟩
  · obtain ⟨c, hc, rfl⟩ := List.mem_map.mp hp
    exact ⟨dKeep s1 (pc c (hcq c hc)), fo.key c.2⟩
  · have := fo.al (cq.map (·.2))
    rw [List.map_map] at this ⊢
    exact this
  · have := fo.so (cq.map (·.2))
    rw [List.map_map] at this ⊢
    exact this
  · obtain ⟨cr, pr, rfl⟩ := lift_perm rs cq pm
    have eus : (cr.map (gcD dd)).map (fun q => V.ref q.1) = cr.map fun c => V.ref c.1 := List.map_map ..
    rw [eus]
    have s2 := s1.trans (same_new (o := .lst (cr.map fun c => V.ref c.1)) nl)
    have pr2 : GC K dd H cr := fun c hc => pc c (hcq c (pr.mem_iff.mp hc))
    have ndq : (cq.map (·.2)).Nodup := by
      rw [List.map_map] at nd
      refine List.pairwise_map.mpr ((List.pairwise_map.mp nd).imp fun {x y} h e => h ?_)
      show keyD (dd x.2) = keyD (dd y.2)
      rw [e]
    refine fin l _ (cr.map (·.2)) _ s2 upd_same (gc_all (pr2.same s2)) ⟨((pr.map (·.2)).nodup_iff).mpr ndq, ?_⟩ fun s => ?_
    · refine List.pairwise_map.mpr ((List.pairwise_map.mp pw).imp fun {x y} h => ?_)
      have z : (!dataLt (dd y.2) (dd x.2)) = true := h
      simpa using z
    constructor
    · intro h
      obtain ⟨c, hc, rfl⟩ := List.mem_map.mp h
      exact List.mem_map.mpr ⟨c, hcq c (pr.mem_iff.mp hc), rfl⟩
    · intro h
      obtain ⟨c, hc, rfl⟩ := List.mem_map.mp h
      have z := all (gcD dd c) (List.mem_map.mpr ⟨c, hc, rfl⟩)
      rw [List.map_map] at z
      obtain ⟨c', hc', e⟩ := List.mem_map.mp z
      rw [← fo.inj (x := c'.2) (y := c.2) e]
      exact List.mem_map.mpr ⟨c', pr.mem_iff.mpr hc', rfl⟩
/-- set of a list of such data -/
theorem set_form (fo : Form dd) {cs : List (Addr × α)} {l : Addr} {H : Hp} {R : VK} (pc : GC K dd H cs) (hl : SqL K H l (cs.map fun c => V.ref c.1)) (few : cs.length + 1 < 64)
    (k : ∀ (a : Addr) (qs : List Cell), H a = none → (∀ q ∈ qs, q ∈ cs.map (gcD dd)) → (∀ p ∈ cs.map (gcD dd), keyD p.2 ∈ qs.map fun q => keyD q.2) → (qs.map fun q => keyD q.2).Nodup → R (.ref a) (upd H a (SetK w a (qs.map memOf)))) : rSetK K w [.ref l] H R := by
  refine ⟨l, cs.map (gcD dd), rfl, ?_, fun p hp => ?_, ?_, k⟩
  · rw [List.map_map]
    exact hl
  · obtain ⟨c, hc, rfl⟩ := List.mem_map.mp hp
    exact ⟨pc c hc, fo.key c.2⟩
  · rw [List.length_map]
    exact few
end
end Kn


/-! Kn: sorted of the set of () alone. -/
namespace Kn
open PySem PySem.Spec PyProof.Rows L2
open PySem.W (dataLe dataLt keyToks keyToksAll alike alikeAll AllAlike EachIs dataKind dataKind_some dataKind_inv SortsAt Sortable sort_pairwise sortLe_total list_sort_data sorted_data list_sort_vals sortingHeap sortingHeap_old each_map sortVals_length sortVals_data each_keepBut)
section
variable {prog : Program} {w : World} {A : Around} {E : Value → Shared → Prop} {s : Shared} {β : Type} {vs : List Value} {bs : List β} {enc : β → PyData} {R : Value → β → Prop}
theorem list_sort_dataE {a : Addr} {n : Nat} {Q : Value → Shared → Prop} (ho : s.heap.get? a = some (seqObj "list" vs.toArray n)) (e : EachIs R vs bs) (er : EachIs (fun v b => ∃ as, Reads s.heap v (enc b) as ∧ a ∉ as) vs bs) (hal : AllAlike (bs.map enc)) (h0 : ∃ r, bs.map enc = .tuple [] :: r) (ht : ∀ d ∈ bs.map enc, ∃ xs, d = .tuple xs) (hL : bs.length ≤ sizeLine)
    (hu : ∀ b, b ∈ bs → A.units + 1 + (enc b).depth < cLine) (h : ∀ out, out.length = bs.length → EachIs R out (bs.mergeSort (dataLe false enc)) → Q .none { s with heap := sortedHeap s.heap a vs (List.toArray out) }) :
    wpAny (model prog w) A (call (.builtin "list.sort") [.ref a]) Q E s := by
  have er' : EachIs (fun v b => ∃ as, Reads (sortingHeap s.heap a vs) v (enc b) as) vs bs := each_keepBut (h' := sortingHeap s.heap a vs) (fun _ _ hb q => sortingHeap_old hb q) (fun o q => by rw [ho] at q; rw [← Option.some.inj q]) hal er
  refine wpAny_call_entry slot_list_sort ⟨_, ho, rfl⟩ entry_list_sort (list_sort_vals (κ := dataKind (sortingHeap s.heap a vs) (bs.map enc)) ho (sorts_empty (s := { s with heap := sortingHeap s.heap a vs }) (each_map (R := fun v d => ∃ as, Reads (sortingHeap s.heap a vs) v d as) enc er') hal h0 ht (PySem.W.bound_map hu)) (by rw [e.length]; exact hL) ⟨.none, rfl, ?_⟩) (args_list_sort _)
  exact h _ (by rw [sortVals_length false rfl]; exact e.length) (sortVals_data false e er' hal)
end
section
variable {P : Program} {w : World} {A : Around} {s : Shared} {E : Value → Shared → Prop}
/-- sorted of a set of () alone -/
theorem key_sorted0 {a b : Addr} {Q : Value → Shared → Prop} (R : KSet w s.heap a [(b, keyD (.tuple []))]) (hh : A.handled = none) (rd : Reads s.heap (.ref b) (.tuple []) []) (hu : A.units + 16 < cLine)
    (q : ∀ s' l (c : Nat), (∀ b o, s.heap.get? b = some o → s'.heap.get? b = some o) → s'.gens = s.gens → s'.os = s.os → s.heap.objs.size ≤ l → s'.heap.get? l = some (seqObj "list" [Value.ref b].toArray c) → Q (.ref l) s') :
    wpAny (model P w) A (call (.builtin "sorted") [.ref a]) Q E s := by
  obtain ⟨C, R⟩ := R.ex
  obtain ⟨o, es, ep, t, ho, hx, hd, T⟩ := R.ex
  have sz : es.size = 1 := T.size
  have b0 : es.size < scanBound := by rw [sz]; exact Nat.lt_trans (show 1 < 64 by decide) (by decide)
  refine Calls.call_function_entry PyProof.Rows.kind_sorted PyProof.Rows.plain_sorted PyProof.Rows.entry_sorted (PyProof.Rows.args_sorted1 _) ?_
  unfold Builtin.«sorted»
  refine wpAny_bind (m := checkCount "sorted" 1 1 _) (wpAny_pure (wpAny_bind (collect_set (A := A.in1) hh ⟨o, ho, hx.1, hd⟩ T.fits b0 T.ok.asc T.led fun s1 vs k1 hz g1 o1 pm => ?_)))
  have e1 : es.toList.map (·.2) = [Value.ref b] := by
    rw [T.rows, List.map_map]
    rfl
  rw [e1] at pm
  obtain rfl : vs = [Value.ref b] := List.perm_singleton.mp pm
  refine wpAny_bind (wpAny_newList ?_ (Nat.le_trans (show 1 ≤ 10 by decide) (by decide)))
  have hoL : (s1.heap.push (seqObj "list" [Value.ref b].toArray 0)).get? s1.heap.objs.size = some (seqObj "list" [Value.ref b].toArray 0) := Heap.get?_push_size _ rfl
  have rd2 : Reads (s1.heap.push (seqObj "list" [Value.ref b].toArray 0)) (.ref b) (.tuple []) [] := PyProof.Rows.Reads.keeps (fun b o e => Heap.get?_push_of_some _ (k1 b o e)) rd
  refine wpAny_bind (wpAny_holding (list_sort_dataE (enc := fun p : Cell => p.2) (bs := ([(b, PyData.tuple [])] : List Cell)) (R := fun v b => v = .ref b.1) hoL (.cons rfl .nil) (.cons ⟨[], rd2, List.not_mem_nil⟩ .nil) (fun d hd e he => ?_) ⟨[], rfl⟩ (fun d hd => ⟨[], List.mem_singleton.mp (show d ∈ [PyData.tuple []] from hd)⟩) (Nat.le_trans (show 1 ≤ 10 by decide) (by decide)) (fun p hp => ?_) fun out lo eo => ?_))
  · rw [List.mem_singleton.mp hd, List.mem_singleton.mp he]
    rfl
  · rw [List.mem_singleton.mp hp]
    have : (PyData.tuple []).depth = 1 := rfl
    simp only [Around.in1_units, this]
    omega
  have eo := refs_each eo
  subst eo
  have ms : ([(b, PyData.tuple [])] : List Cell).mergeSort (dataLe false fun p : Cell => p.2) = [(b, .tuple [])] := by simp
  rw [ms] at *
  obtain ⟨c, hc⟩ := PyProof.Rows.sortedHeap_at (vs := [Value.ref b]) (out := [Value.ref b].toArray) hoL
  refine wpAny_pure ⟨_, rfl, q _ s1.heap.objs.size c (fun b u e => ?_) g1 o1 hz hc⟩
  have e' := k1 b u e
  have lt := Heap.lt_size e'
  show (PyProof.Rows.sortedHeap (s1.heap.push (seqObj "list" [Value.ref _].toArray 0)) s1.heap.objs.size [Value.ref _] _).get? b = some u
  rw [PyProof.Rows.sortedHeap_old (Nat.ne_of_lt lt) (by rw [size_push']; exact Nat.lt_succ_of_lt lt)]
  exact Heap.get?_push_of_some _ e'
end
section
variable {X : Cx}
def rSorted0 (K : PySem.W.Frag) (w : World) : List V → Hp → VK → Prop := fun vs H Q => ∃ (a b : Addr), vs = [.ref a] ∧ H a = some (SetK w a [memOf (b, .tuple [])]) ∧ Dp K H (.ref b) (.tuple []) ∧ ∀ (l : Addr), H l = none → Q (.ref l) (upd H l (.lst [.ref b]))
theorem cr_sorted0 (hc : X.calm = true) (hu : X.A.units + 64 < cLine) : CallR X (.builtin "sorted") (rSorted0 X.K X.w) := by
  intro pins s σ H vs us Q I r h
  obtain ⟨a, b, rfl, ha, hb, q⟩ := h
  rw [Vals.ref1 r]
  have T : KSet X.w s.heap a [memOf (b, .tuple [])] := (I.hok a _ ha).1
  refine key_sorted0 T (I.ok.hd hc) (dp_key I hb rfl).1 (by omega) fun s' l c keep g o hl hg => ?_
  have fresh : H l = none := I.hok.fresh hl
  have J : Inv X pins σ (upd H l (.lst [.ref b])) { s with heap := s'.heap, gens := s'.gens, drawn := s'.drawn, toks := s'.toks } :=
    I.call (ch := []) (Un.laid keep hl fresh) (I.hok.laid keep hl ⟨Nat.le_trans (show 1 ≤ 10 by decide) (by decide), _, c, vals_refs [(b, PyData.tuple [])], hg⟩) (by rw [g]; exact I.bare) (fun _ z => nomatch z)
  have e : s' = { s with heap := s'.heap, gens := s'.gens, drawn := s'.drawn, toks := s'.toks } := by
    rcases s' with ⟨a1, a2, a3, a4, a5⟩
    rcases s with ⟨b1, b2, b3, b4, b5⟩
    cases o
    rfl
  rw [e]
  exact ⟨.ref l, _, J, rfl, q l fresh⟩
end
end Kn


/-! Kn: set of a tuple of tuples; sum of a tuple. -/
namespace Kn
open PySem PySem.Spec PyProof.Rows L2
section
variable {P : Program} {w : World} {A : Around} {E : Value → Shared → Prop} {s : Shared}
/-- set(xs) of a tuple of keys -/
theorem key_set_tup {l : Addr} {its : Array Value} (ms : List Mem) {Q : Value → Shared → Prop} (hh : A.handled = none) (hl : s.heap.IsTuple l its) (vs : its.toList = ms.map fun m => Value.ref m.1) (keys : ∀ m ∈ ms, KeyAt s.heap m) (room : ms.length + 1 < 64) (hu : A.units + 32 < cLine)
    (q : ∀ (h' : Heap) (tk : Nat) (M : List Mem), KSet w h' s.heap.objs.size M → Of ms M → (∀ b o, s.heap.get? b = some o → h'.get? b = some o) → Q (.ref s.heap.objs.size) { s with heap := h', toks := tk }) :
    wpAny (model P w) A (call (.type "set") [.ref l]) Q E s := by
  have sz : ms.length = its.size := by rw [← Array.length_toList, vs, List.length_map]
  obtain ⟨cl, tl, hmro⟩ := PySem.F.called_set.mro
  have k1 := PySem.F.called_set.made
  have k2 := PySem.F.called_set.sub
  have k3 := PySem.F.called_set.notType
  have k4 := PySem.F.called_set.canCreate
  have k5 := PySem.F.typeCall_set_1 (.ref l)
  refine wpAny_call (codeAny_of_tree ?_)
  show wpAny _ _ (callAny (.type "set") _) _ _ _
  refine wpAny_pure ⟨Code.quiet_builtin _ (by decide +kernel), codeAny_builtin PySem.F.entry_type_call ?_⟩
  rw [Around.under_plain (weight_type_call_type "set" [.ref l] []) rfl]
  repeat (any_goals (first | assumption | wp_step))
  refine codeAny_mono (code_set_led1 (.ref l) (E := E) (Q₁ := fun v s1 => v = .ref s.heap.objs.size ∧ s1 = { s with heap := s.heap.push (setObj0 w) }) ⟨rfl, rfl⟩) fun r s1 hr => ?_
  rcases r with e | fl
  · exact hr
  cases fl with
  | brk => exact hr.elim
  | cont => exact hr.elim
  | next => exact hr.elim
  | ret v =>
    obtain ⟨rfl, rfl⟩ := hr
    have at0 : (s.heap.push (setObj0 w)).get? s.heap.objs.size = some (setObj0 w) := Heap.get?_push_size _ rfl
    have ty0 : Shared.TypeIs { s with heap := s.heap.push (setObj0 w) } (.ref s.heap.objs.size) "set" := ⟨_, at0, rfl⟩
    have k6 := PySem.F.called_set.init.lookup
    have k7 := PySem.F.called_set.init.bind (.ref s.heap.objs.size)
    repeat (any_goals (first | assumption | wp_step))
    refine codeAny_mono (codeAny_call_builtin (R := wants (fun r s2 => r = .none ∧ ∃ h' tk M, s2 = { s with heap := h', toks := tk } ∧ KSet w h' s.heap.objs.size M ∧ Of ms M ∧ ∀ b o, s.heap.get? b = some o → h'.get? b = some o) E)
      PySem.F.called_set.init.plain PySem.F.entry_set_init (check_set_init_1 ty0 ?_)) fun r2 s2 hr2 => ?_
    · obtain ⟨⟨oc, od, oda, osl⟩, ho, hc, nl, hd⟩ := hl
      simp only at hc hd
      subst hc; subst hd
      have ho' : (s.heap.push (setObj0 w)).get? l = some { cls := .type "tuple", dict := od, data := .seq its nl, slots := osl } := Heap.get?_push_of_some _ ho
      have hl' : (s.heap.push (setObj0 w)).IsTuple l its := ⟨_, ho', rfl, nl, rfl⟩
      have j1 := PySem.F.sub_tuple_set
      have j2 := PySem.F.sub_tuple_frozenset
      have j3 : (Value.type "tuple" == Value.type "dict") = false := by decide
      unfold Builtin.«set.__init__» noKeywords Builtin.Frozenset.updateFrom
      generalize hPI : pyIter = PI
      wp_walk
      subst hPI
      have lS : l < s.heap.objs.size := Heap.lt_size ho
      have z1 : (s.heap.push (setObj0 w)).objs.size = s.heap.objs.size + 1 := Heap.size_push ..
      have nI : l ≠ (s.heap.push (setObj0 w)).objs.size := by rw [z1]; exact Nat.ne_of_lt (Nat.lt_succ_of_lt lS)
      have nS : s.heap.objs.size ∉ [(s.heap.push (setObj0 w)).objs.size, l] := by
        rw [z1]
        intro m
        simp only [List.mem_cons, List.not_mem_nil, or_false] at m
        rcases m with m | m
        · exact absurd m (Nat.ne_of_lt (Nat.lt_succ_self _))
        · exact absurd m.symm (Nat.ne_of_lt lS)
      have h3 : A.in1.in1.in1.handled = none := by simp [hh]
      refine wpAny_pyIter_tuple hl' (wpAny_bind (wpAny_runValue ?_))
      refine key_loop ((Walks.tuple h3 _ l nI its).toS) s.heap.objs.size nS ms sz (by omega) (fun i v hv => ?_) s.heap keys (Heap.get?_none_of_le (Nat.le_refl _)) (fun b hb => ?_) ?_ (its.size - 0) 0 _ (by omega) (Nat.zero_le _) ⟨⟨_, Heap.get?_push_size _ rfl, rfl, rfl⟩, hl'.push _⟩ (fun b o e => Heap.get?_push_of_some _ (Heap.get?_push_of_some _ e)) ⟨[], ?_, Of.nil⟩ ?_
      · have lt : i < ms.length := by rw [sz]; exact (Array.getElem?_eq_some_iff.mp hv).1
        refine ⟨ms[i], List.getElem?_eq_getElem lt, ?_⟩
        have z : its.toList[i]? = some v := by rw [Array.getElem?_toList]; exact hv
        rw [vs, List.getElem?_map, List.getElem?_eq_getElem lt] at z
        exact (Option.some.inj z).symm
      · rw [List.mem_singleton.mp hb, z1]
        exact Heap.get?_none_of_le (Nat.le_succ _)
      · simp only [Around.in1_units]
        omega
      · exact key_fresh (Heap.get?_push_of_some _ at0)
      · intro s' M mv T g
        obtain ⟨h', g2, d', tk', os'⟩ := s'
        have e1 : g2 = s.gens := mv.gens
        have e2 : d' = s.drawn := mv.drawn
        have e3 : os' = s.os := mv.os
        subst e1; subst e2; subst e3
        show wpAny _ _ _ _ _ _
        refine wpAny_pure ?_
        show wpAny _ _ (ret Value.none) _ _ _
        refine wpAny_pure ⟨rfl, h', tk', M, rfl, ⟨_, T⟩, g, fun b o e => ?_⟩
        have lb : b < s.heap.objs.size := Heap.lt_size e
        refine mv.heap b o (fun m => ?_) (Heap.get?_push_of_some _ (Heap.get?_push_of_some _ e))
        rcases List.mem_cons.mp m with m | m
        · exact absurd m (Nat.ne_of_lt lb)
        · rw [List.mem_singleton, z1] at m
          exact absurd m (Nat.ne_of_lt (Nat.lt_succ_of_lt lb))
    · rcases r2 with e | fl2
      · exact hr2
      cases fl2 with
      | brk => exact hr2.elim
      | cont => exact hr2.elim
      | next => exact hr2.elim
      | ret v =>
        obtain ⟨rfl, h', tk, M, rfl, T, g, keep⟩ := hr2
        repeat (any_goals (first | assumption | wp_step))
        exact q _ _ M T g keep
end
section
variable {X : Cx}
/-- set(xs), xs a tuple of tuples of any depth -/
def rSetKT (K : PySem.W.Frag) (w : World) : List V → Hp → VK → Prop := fun vs H Q => ∃ (l : Addr) (ps : List Cell), vs = [.ref l] ∧ SqT K H l (ps.map fun p => V.ref p.1) ∧ (∀ p ∈ ps, Dp K H (.ref p.1) p.2 ∧ keyB p.2 = true ∧ p.2.depth ≤ 8) ∧ ps.length + 1 < 64 ∧
  ∀ (a : Addr) (qs : List Cell), H a = none → (∀ q ∈ qs, q ∈ ps) → (∀ p ∈ ps, keyD p.2 ∈ qs.map fun q => keyD q.2) → (qs.map fun q => keyD q.2).Nodup → Q (.ref a) (upd H a (SetK w a (qs.map memOf)))
theorem cr_setKT (hc : X.calm = true) (hu : X.A.units + 64 < cLine) : CallR X (.type "set") (rSetKT X.K X.w) := by
  intro pins s σ H vs us Q I r h
  obtain ⟨l, ps, rfl, hl, hp, few, q⟩ := h
  rw [Vals.ref1 r]
  obtain ⟨its, rv, pl, hz⟩ := I.tuple hl
  refine key_set_tup (ps.map memOf) (I.ok.hd hc) pl ?_ (fun m hm => ?_) (by rw [List.length_map]; exact few) (by omega) fun h' tk M T g keep => ?_
  · rw [List.map_map]
    have z := refs_vals rv
    show its = _
    rw [z]
    rfl
  · obtain ⟨p, hpm, rfl⟩ := List.mem_map.mp hm
    obtain ⟨d, k, dp⟩ := hp p hpm
    exact ⟨(dp_key I d k).2, by rw [key_depth _ k]; exact dp⟩
  · obtain ⟨qs, rfl, sub⟩ := lift_sub M g.sub
    obtain ⟨_, T1⟩ := T.ex
    obtain ⟨o, es, ep, t, ho, hx, hd, TT⟩ := T1.ex
    have nd := TT.nd
    rw [List.map_map] at nd
    refine ⟨.ref _, upd H s.heap.objs.size (SetK X.w s.heap.objs.size (qs.map memOf)), I.laid (t' := tk) keep (Nat.le_refl _) (setK_new T), rfl, q _ qs (I.hok.fresh (Nat.le_refl _)) sub (fun p hpm => ?_) nd⟩
    have z := g.all (memOf p) (List.mem_map.mpr ⟨p, hpm, rfl⟩)
    rw [List.map_map] at z
    exact z
end
end Kn


namespace Kn
open PySem PySem.Spec PyProof.Rows L2
/-- a pair with its mark ahead -/
abbrev dRv (s : Str × Int) : PyData := .tuple [.int s.2, .str s.1]
abbrev dTp (x : List (Str × Int)) : PyData := .tuple (x.map dPr)
theorem form_rv : Form dRv where
  key := fun s => ⟨rfl, (show 1 ≤ 8 by decide)⟩
  al := fun l d hd d' hd' => by
    obtain ⟨s, _, rfl⟩ := List.mem_map.mp hd
    obtain ⟨t, _, rfl⟩ := List.mem_map.mp hd'
    rfl
  so := fun l => .inl fun d hd => by
    obtain ⟨s, _, rfl⟩ := List.mem_map.mp hd
    exact ⟨_, _, rfl⟩
  inj := fun {s t} h => by
    have h : NestedKey.tup [.num s.2, .text s.1] = .tup [.num t.2, .text t.1] := h
    injection h with h
    injection h with h1 h2
    injection h1 with h1
    injection h2 with h2 _
    injection h2 with h2
    exact Prod.ext h2 h1
theorem keyDs_inj : ∀ {xs ys : List (Str × Int)}, keyDs (xs.map dPr) = keyDs (ys.map dPr) → xs = ys
  | [], [], _ => rfl
  | [], y :: ys, h => by cases h
  | x :: xs, [], h => by cases h
  | x :: xs, y :: ys, h => by
    have h : keyD (dPr x) :: keyDs (xs.map dPr) = keyD (dPr y) :: keyDs (ys.map dPr) := h
    injection h with h1 h2
    rw [keyD_pr h1, keyDs_inj h2]
theorem prs_key : ∀ xs : List (Str × Int), keysB (xs.map dPr) = true
  | [] => rfl
  | x :: r => prs_key r
theorem tp_deep (x : List (Str × Int)) : (dTp x).depth ≤ 2 := by
  have z := prs_deep x
  have e : (dTp x).depth = PyData.depthAll (x.map dPr) + 1 := rfl
  omega
/-- plans that are not empty -/
abbrev NeP := { x : List (Str × Int) // x ≠ [] }
theorem form_tp : Form fun x : NeP => dTp x.1 where
  key := fun x => ⟨prs_key x.1, by have := tp_deep x.1; show (dTp x.1).depth ≤ 8; omega⟩
  al := fun l d hd d' hd' => by
    obtain ⟨s, _, rfl⟩ := List.mem_map.mp hd
    obtain ⟨t, _, rfl⟩ := List.mem_map.mp hd'
    exact prs_alike s.1 t.1
  so := fun l => .inl fun d hd => by
    obtain ⟨⟨s, hs⟩, _, rfl⟩ := List.mem_map.mp hd
    match s, hs with
    | a :: r, _ => exact ⟨_, _, rfl⟩
  inj := fun {x y} h => by
    have h : NestedKey.tup (keyDs (x.1.map dPr)) = .tup (keyDs (y.1.map dPr)) := h
    injection h with h
    exact Subtype.ext (keyDs_inj h)
/-- plans in order, each once -/
def OrdP (rs : List (List (Str × Int))) : Prop := rs.Nodup ∧ rs.Pairwise fun x y => PySem.W.dataLt (dTp y) (dTp x) = false
theorem tp_tri : ∀ {x y : List (Str × Int)}, PySem.W.dataLt (dTp x) (dTp y) = false → PySem.W.dataLt (dTp y) (dTp x) = false → x = y
  | [], [], _, _ => rfl
  | [], y :: ys, h, _ => by
    rw [PySem.W.dataLt_tuple, List.map_cons, PySem.W.toks_all_cons] at h
    simp only [List.map_nil, PySem.W.keyToksAll] at h
    rw [PyProof.Rows.lex_diff (O := itemOrd) (by simp)] at h
    cases h
  | x :: xs, [], _, h => by
    rw [PySem.W.dataLt_tuple, List.map_cons, PySem.W.toks_all_cons] at h
    simp only [List.map_nil, PySem.W.keyToksAll] at h
    rw [PyProof.Rows.lex_diff (O := itemOrd) (by simp)] at h
    cases h
  | x :: xs, y :: ys, h, k => by
    rw [PySem.W.dataLt_tuple, List.map_cons, List.map_cons, PySem.W.dataLt_cons (x := dPr x) (y := dPr y) rfl] at h
    rw [PySem.W.dataLt_tuple, List.map_cons, List.map_cons, PySem.W.dataLt_cons (x := dPr y) (y := dPr x) rfl] at k
    by_cases e : x = y
    · subst e
      have ev : PyData.eqv (dPr x) (dPr x) = true := by
        rw [pr_eqv]
        exact decide_eq_true rfl
      rw [if_pos ev, ← PySem.W.dataLt_tuple] at h k
      rw [tp_tri h k]
    · have ev : ¬ PyData.eqv (dPr x) (dPr y) = true := by
        rw [pr_eqv]
        exact fun z => e (of_decide_eq_true z)
      have ev2 : ¬ PyData.eqv (dPr y) (dPr x) = true := by
        rw [pr_eqv]
        exact fun z => e (of_decide_eq_true z).symm
      rw [if_neg ev] at h
      rw [if_neg ev2] at k
      have z := lt_of_le k e
      rw [h] at z
      cases z
theorem ord_eq : ∀ {xs ys : List (List (Str × Int))}, OrdP xs → OrdP ys → (∀ s, s ∈ xs ↔ s ∈ ys) → xs = ys
  | [], [], _, _, _ => rfl
  | [], y :: ys, _, _, h => by cases (h y).mpr (List.mem_cons_self ..)
  | x :: xs, [], _, _, h => by cases (h x).mp (List.mem_cons_self ..)
  | x :: xs, y :: ys, ⟨a1, a2⟩, ⟨b1, b2⟩, h => by
    have a1' := List.nodup_cons.mp a1
    have b1' := List.nodup_cons.mp b1
    have a2' := List.pairwise_cons.mp a2
    have b2' := List.pairwise_cons.mp b2
    have e : x = y := by
      rcases List.mem_cons.mp ((h x).mp (List.mem_cons_self ..)) with e | m
      · exact e
      rcases List.mem_cons.mp ((h y).mpr (List.mem_cons_self ..)) with e | n
      · exact e.symm
      · exact tp_tri (b2'.1 x m) (a2'.1 y n)
    subst e
    refine congrArg _ (ord_eq ⟨a1'.2, a2'.2⟩ ⟨b1'.2, b2'.2⟩ fun s => ?_)
    have z := h s
    constructor
    · intro m
      rcases List.mem_cons.mp (z.mp (List.mem_cons_of_mem _ m)) with e | n
      · exact absurd (e ▸ m) a1'.1
      · exact n
    · intro m
      rcases List.mem_cons.mp (z.mpr (List.mem_cons_of_mem _ m)) with e | n
      · exact absurd (e ▸ m) b1'.1
      · exact n
theorem form_pr : Form dPr where
  key := fun s => ⟨rfl, (show 1 ≤ 8 by decide)⟩
  al := fun l => pr_alike l
  so := fun l => pr_sortable l
  inj := fun {s t} h => keyD_pr h
theorem asc_ord {rs : List (Str × Int)} (h : OrdG dPr rs) : Asc rs := (h.2.and h.1).imp fun {x y} z => lt_of_le z.1 z.2
theorem tup_ref {K : PySem.W.Frag} {H : Hp} {v : V} {ds : List PyData} (h : Dp K H v (.tuple ds)) : ∃ p, v = .ref p := by
  obtain ⟨p, _, e, _⟩ := tupD h
  exact ⟨p, e⟩
def rSortedB (K : PySem.W.Frag) (w : World) : List V → Hp → VK → Prop := fun vs H Q => rSortedK K w vs H Q ∨ rSorted0 K w vs H Q
theorem cr_sortedB {X : Cx} (hc : X.calm = true) (hu : X.A.units + 64 < cLine) : CallR X (.builtin "sorted") (rSortedB X.K X.w) := by
  intro pins s σ H vs us Q I r h
  rcases h with h | h
  · exact cr_sortedK hc hu pins s σ H vs us Q I r h
  · exact cr_sorted0 hc hu pins s σ H vs us Q I r h
/-- ascending of a list of plans: none is empty, or the empty one stands alone -/
def spAsL (K : PySem.W.Frag) : Sp := fun vs H Q _ => ∃ (l : Addr) (ys : List V) (qs : List (List (Str × Int))), vs = [.ref l] ∧ SqL K H l ys ∧ TupsAt K H ys qs ∧ qs.length + 1 < 64 ∧ ((∀ x ∈ qs, x ≠ []) ∨ qs = [[]]) ∧
  ∀ (q : Addr) (zs : List V) (rs : List (List (Str × Int))) (H' : Hp), Same H H' → H' q = some (.tup zs) → TupsAt K H' zs rs → OrdP rs → (∀ s, s ∈ rs ↔ s ∈ qs) → Q (.ref q) H'
/-- ascending of a tuple of pairs -/
def spAsT (K : PySem.W.Frag) : Sp := fun vs H Q _ => ∃ (l : Addr) (ys : List V) (ts : List (Str × Int)), vs = [.ref l] ∧ SqT K H l ys ∧ DpAll K H ys (ts.map dPr) ∧ ts.length + 1 < 64 ∧
  ∀ (q : Addr) (zs : List V) (rs : List (Str × Int)) (H' : Hp), Same H H' → H' q = some (.tup zs) → DpAll K H' zs (rs.map dPr) → Asc rs → (∀ s, s ∈ rs ↔ s ∈ ts) → Q (.ref q) H'
def spAsG (K : PySem.W.Frag) {α : Type} (dd : α → PyData) : Sp := fun vs H Q _ => ∃ (l : Addr) (ys : List V) (ts : List α), vs = [.ref l] ∧ SqL K H l ys ∧ DpAll K H ys (ts.map dd) ∧ ts.length + 1 < 64 ∧
  ∀ (q : Addr) (zs : List V) (rs : List α) (H' : Hp), Same H H' → H' q = some (.tup zs) → DpAll K H' zs (rs.map dd) → OrdG dd rs → (∀ s, s ∈ rs ↔ s ∈ ts) → Q (.ref q) H'
section
variable {P : Program} {w : World} {K : PySem.W.Frag} {mg : Str → Option Value} {base : Heap}
theorem ok_asG {α : Type} {dd : α → PyData} (fo : Form dd) (isRef : ∀ {H : Hp} {v : V} {x : α}, Dp K H v (dd x) → ∃ p, v = .ref p) {f : Addr} {fd : FuncData} (F : Fun K "ascending" "ascending" (topS 8) f fd) (mt : mg "tuple" = none) (mo : mg "sorted" = none) (me : mg "set" = none) : FnOk P w K mg base CX0 1 f fd ["things"] (spAsG K dd) := by
  refine F.ok scAs (fun vs H Q E h => ?_) (fun cdv A outer s H vs Q E hr h => ?_)
  · obtain ⟨l, ys, ts, rfl, _⟩ := h
    rfl
  · obtain ⟨l, ys, ts, rfl, hl, hy, few, q⟩ := h
    have hu := hr.units
    refine ⟨_, pss_one (ps_ret (pe_callTy call_tuple_of (by rfl) mt boot_tuple (pa_cons (pe_callB (cr_sortedK (by rfl) hu) (by rfl) mo (by decide +kernel) (pa_cons (pe_callTy (cr_setK (by rfl) hu) (by rfl) me (by decide +kernel) (pa_cons (pv 0) pa_nil)) pa_nil)) pa_nil))), ?_⟩
    obtain ⟨cs, rfl, rfl, pc⟩ := gc_of isRef hy
    refine ⟨.ref l, rfl, ?_⟩
    dsimp only [tNil]
    refine set_form fo pc hl (by rw [List.length_map] at few; exact few) fun a qs na sub all nd => ?_
    refine sorted_endG fo pc na sub all nd fun l2 vs rs H2 s2 e2 h2 od mem => ?_
    exact ⟨l2, _, rfl, .inl ⟨.inl (.inl e2), fun p np => by
      have s3 := same_new (o := .tup vs) np
      exact q p vs rs _ (s2.trans s3) upd_same (dsKeep s3 h2) od mem⟩⟩
theorem ok_asT {f : Addr} {fd : FuncData} (F : Fun K "ascending" "ascending" (topS 8) f fd) (mt : mg "tuple" = none) (mo : mg "sorted" = none) (me : mg "set" = none) : FnOk P w K mg base CX0 1 f fd ["things"] (spAsT K) := by
  refine F.ok scAs (fun vs H Q E h => ?_) (fun cdv A outer s H vs Q E hr h => ?_)
  · obtain ⟨l, ys, ts, rfl, _⟩ := h
    rfl
  · obtain ⟨l, ys, ts, rfl, hl, hy, few, q⟩ := h
    have hu := hr.units
    refine ⟨_, pss_one (ps_ret (pe_callTy call_tuple_of (by rfl) mt boot_tuple (pa_cons (pe_callB (cr_sortedK (by rfl) hu) (by rfl) mo (by decide +kernel) (pa_cons (pe_callTy (cr_setKT (by rfl) hu) (by rfl) me (by decide +kernel) (pa_cons (pv 0) pa_nil)) pa_nil)) pa_nil))), ?_⟩
    obtain ⟨cs, rfl, rfl, pc⟩ := gc_of (dd := dPr) (fun h => tup_ref h) hy
    refine ⟨.ref l, rfl, ?_⟩
    dsimp only [tNil]
    refine ⟨l, cs.map (gcD dPr), rfl, ?_, fun p hp => ?_, ?_, fun a qs na sub all nd => ?_⟩
    · rw [List.map_map]
      exact hl
    · obtain ⟨c, hc, rfl⟩ := List.mem_map.mp hp
      exact ⟨pc c hc, form_pr.key c.2⟩
    · rw [List.length_map] at few ⊢
      exact few
    refine sorted_endG form_pr pc na sub all nd fun l2 vs rs H2 s2 e2 h2 od mem => ?_
    exact ⟨l2, _, rfl, .inl ⟨.inl (.inl e2), fun p np => by
      have s3 := same_new (o := .tup vs) np
      exact q p vs rs _ (s2.trans s3) upd_same (dsKeep s3 h2) (asc_ord od) mem⟩⟩
theorem ok_asL {f : Addr} {fd : FuncData} (F : Fun K "ascending" "ascending" (topS 8) f fd) (mt : mg "tuple" = none) (mo : mg "sorted" = none) (me : mg "set" = none) : FnOk P w K mg base CX0 1 f fd ["things"] (spAsL K) := by
  refine F.ok scAs (fun vs H Q E h => ?_) (fun cdv A outer s H vs Q E hr h => ?_)
  · obtain ⟨l, ys, ts, rfl, _⟩ := h
    rfl
  · obtain ⟨l, ys, ts, rfl, hl, hy, few, one, q⟩ := h
    have hu := hr.units
    refine ⟨_, pss_one (ps_ret (pe_callTy call_tuple_of (by rfl) mt boot_tuple (pa_cons (pe_callB (cr_sortedB (by rfl) hu) (by rfl) mo (by decide +kernel) (pa_cons (pe_callTy (cr_setK (by rfl) hu) (by rfl) me (by decide +kernel) (pa_cons (pv 0) pa_nil)) pa_nil)) pa_nil))), ?_⟩
    refine ⟨.ref l, rfl, ?_⟩
    dsimp only [tNil]
    rcases one with ne | rfl
    · have hy : DpAll K H ys ((ts.attach.map fun x => (⟨x.1, ne x.1 x.2⟩ : NeP)).map fun x => dTp x.1) := by
        rw [List.map_map]
        have e : ts.attach.map ((fun x : NeP => dTp x.1) ∘ fun x => (⟨x.1, ne x.1 x.2⟩ : NeP)) = ts.map dTp := by
          conv => rhs; rw [← List.attach_map_subtype_val ts]
          rw [List.map_map]
          rfl
        rw [e]
        exact hy
      obtain ⟨cs, rfl, ecs, pc⟩ := gc_of (dd := fun x : NeP => dTp x.1) (fun h => tup_ref h) hy
      have lc : cs.length = ts.length := by
        have := congrArg List.length ecs
        rw [List.length_map, List.length_attach, List.length_map] at this
        exact this.symm
      refine set_form form_tp pc hl (by omega) fun a qs na sub all nd => .inl ?_
      refine sorted_endG form_tp pc na sub all nd fun l2 vs rs H2 s2 e2 h2 od mem => ?_
      exact ⟨l2, _, rfl, .inl ⟨.inl (.inl e2), fun p np => by
        have s3 := same_new (o := .tup vs) np
        refine q p vs (rs.map (·.1)) _ (s2.trans s3) upd_same ?_ ⟨?_, ?_⟩ fun s => ?_
        · have z := dsKeep s3 h2
          unfold TupsAt
          rw [List.map_map]
          exact z
        · exact List.pairwise_map.mpr (od.1.imp fun {x y} h e => h (Subtype.ext e))
        · exact List.pairwise_map.mpr od.2
        · rw [List.mem_map]
          constructor
          · rintro ⟨x, hx, rfl⟩
            have z := (mem x).mp hx
            rw [← ecs] at z
            obtain ⟨y, _, e⟩ := List.mem_map.mp z
            rw [← e]
            exact y.2
          · intro hs
            refine ⟨⟨s, ne s hs⟩, (mem _).mpr ?_, rfl⟩
            rw [← ecs]
            exact List.mem_map.mpr ⟨⟨s, hs⟩, List.mem_attach _ _, rfl⟩⟩⟩
    · obtain ⟨v, rfl, hv⟩ : ∃ v, ys = [v] ∧ Dp K H v (.tuple []) := by
        cases hy with
        | cons a b =>
          cases b
          exact ⟨_, rfl, a⟩
      obtain ⟨b, rfl⟩ := tup_ref hv
      refine ⟨l, [(b, .tuple [])], rfl, hl, fun p hp => ?_, (show 2 < 64 by decide), fun a qs na sub all nd => .inr ?_⟩
      · rw [List.mem_singleton.mp hp]
        exact ⟨hv, rfl, (show 1 ≤ 8 by decide)⟩
      obtain rfl : qs = [(b, .tuple [])] := by
        match qs, sub, all, nd with
        | [], _, all, _ => cases all _ (List.mem_singleton.mpr rfl)
        | [x], sub, _, _ => rw [List.mem_singleton.mp (sub x (List.mem_cons_self ..))]
        | x :: y :: r, sub, _, nd =>
          have e1 := List.mem_singleton.mp (sub x (List.mem_cons_self ..))
          have e2 := List.mem_singleton.mp (sub y (List.mem_cons_of_mem _ (List.mem_cons_self ..)))
          rw [e1, e2] at nd
          exact absurd (List.mem_cons_self ..) (List.nodup_cons.mp nd).1
      have s1 := same_new (o := SetK w a [memOf (b, .tuple [])]) na
      refine ⟨a, b, rfl, upd_same, dKeep s1 hv, fun l2 n2 => ?_⟩
      have s2 := s1.trans (same_new (o := .lst [.ref b]) n2)
      refine ⟨l2, [.ref b], rfl, .inl ⟨.inl (.inl upd_same), fun p np => ?_⟩⟩
      have s3 := s2.trans (same_new (o := .tup [.ref b]) np)
      exact q p [.ref b] [[]] _ s3 upd_same (.cons (dKeep s3 hv) .nil) ⟨by simp, List.pairwise_singleton ..⟩ (fun s => Iff.rfl)
end
end Kn


namespace Kn
open PySem PySem.Spec PyProof.Rows L2
/-! ### plans made pair by pair, the great marks first -/
def leadersC (g : Pg) (fs : List (Str × Int)) (t : Str × Int) : List (Str × Int) := fs.filter fun o => decide (t ∈ lvOf g o)
def stepC (g : Pg) (fs : List (Str × Int)) (t : Str × Int) (ps : List (List (Str × Int))) : List (List (Str × Int)) :=
  ps ++ (ps.filter fun y => (leadersC g fs t).any fun o => decide (o ∈ y)).map fun y => y ++ [t]
def plansC (g : Pg) (fs : List (Str × Int)) : List (Str × Int) → List (List (Str × Int)) → List (List (Str × Int))
  | [], ps => ps
  | t :: r, ps => plansC g fs r (stepC g fs t ps)
structure SoundC (g : Pg) (p : Int) (fs dn : List (Str × Int)) (ps : List (List (Str × Int))) : Prop where
  nd : ∀ y ∈ ps, y.Nodup
  sub : ∀ y ∈ ps, ∀ s ∈ y, s ∈ fs ∧ (s = (g.asks, p) ∨ s ∈ dn)
  led : ∀ y ∈ ps, LedF g p y
  all : ∀ X : List (Str × Int), (∀ s ∈ X, s ∈ fs) → LedF g p X → ∃ y ∈ ps, ∀ s, s ∈ y ↔ (s ∈ X ∧ (s = (g.asks, p) ∨ s ∈ dn))
theorem SoundC.first {g : Pg} {p : Int} {fs : List (Str × Int)} (mem : ∀ s, s ∈ fs ↔ s ∈ foundP g p) : SoundC g p fs [] [firstF g p] := by
  have ask : canB g g.asks p = true → (g.asks, p) ∈ fs := fun c => (mem _).mpr (found_ask c)
  have eF : firstF g p = if canB g g.asks p then [(g.asks, p)] else [] := rfl
  cases c : canB g g.asks p
  · rw [c, if_neg Bool.false_ne_true] at eF
    have f0 := found_none c
    refine ⟨fun y hy => ?_, fun y hy s hs => ?_, fun y hy => ?_, fun X hX _ => ⟨_, List.mem_singleton.mpr rfl, fun s => ?_⟩⟩
    · rw [List.mem_singleton.mp hy, eF]
      exact List.nodup_nil
    · rw [List.mem_singleton.mp hy, eF] at hs
      cases hs
    · rw [List.mem_singleton.mp hy, eF]
      exact ⟨fun s hs => (by cases hs), fun z => by rw [c] at z; cases z⟩
    · rw [eF]
      constructor
      · intro h
        cases h
      · rintro ⟨h, _⟩
        have z := (mem s).mp (hX s h)
        rw [f0] at z
        cases z
  · rw [c, if_pos rfl] at eF
    refine ⟨fun y hy => ?_, fun y hy s hs => ?_, fun y hy => ?_, fun X hX l => ⟨_, List.mem_singleton.mpr rfl, fun s => ?_⟩⟩
    · rw [List.mem_singleton.mp hy, eF]
      simp
    · rw [List.mem_singleton.mp hy, eF] at hs
      rw [List.mem_singleton.mp hs]
      exact ⟨ask c, .inl rfl⟩
    · rw [List.mem_singleton.mp hy, eF]
      exact ⟨fun s hs => .inl (List.mem_singleton.mp hs), fun _ => List.mem_singleton.mpr rfl⟩
    · rw [eF, List.mem_singleton]
      constructor
      · intro e
        exact ⟨e ▸ l.first c, .inl e⟩
      · rintro ⟨_, e | h⟩
        · exact e
        · cases h
theorem SoundC.step {g : Pg} (G : GW g) {p : Int} {fs dn : List (Str × Int)} {ps : List (List (Str × Int))} {t : Str × Int} {r : List (Str × Int)} (mem : ∀ s, s ∈ fs ↔ s ∈ foundP g p) (h : SoundC g p fs dn ps) (nd : (dn ++ t :: r).Nodup) (ex : ∀ s ∈ fs, s ∈ dn ++ t :: r) (tin : t ∈ fs) (fall : ∀ s ∈ r, s.2 ≤ t.2) :
    SoundC g p fs (dn ++ [t]) (stepC g fs t ps) := by
  have fg := found_good G (p := p)
  have hi : ∀ s ∈ fs, s.2 ≤ p := fun s hs => (fg.all s ((mem s).mp hs)).2.2.2
  have tn : t ∉ dn := fun z => (List.nodup_append.mp nd).2.2 t z t (List.mem_cons_self ..) rfl
  have far : ∀ o ∈ fs, t ∈ lvOf g o → t ≠ (g.asks, p) := fun o ho hl e => by
    have a := (lv_known G hl).2
    have b := hi o ho
    rw [e] at a
    have a : p < o.2 := a
    omega
  have inn : ∀ z ∈ stepC g fs t ps, z ∈ ps ∨ ∃ y ∈ ps, z = y ++ [t] ∧ ∃ o ∈ fs, t ∈ lvOf g o ∧ o ∈ y := fun z hz => by
    rcases List.mem_append.mp hz with hz | hz
    · exact .inl hz
    · obtain ⟨y, hy, rfl⟩ := List.mem_map.mp hz
      obtain ⟨h1, h2⟩ := List.mem_filter.mp hy
      obtain ⟨o, ho, hoy⟩ := List.any_eq_true.mp h2
      obtain ⟨o1, o2⟩ := List.mem_filter.mp ho
      exact .inr ⟨y, h1, rfl, o, o1, of_decide_eq_true o2, of_decide_eq_true hoy⟩
  refine ⟨fun z hz => ?_, fun z hz s hs => ?_, fun z hz => ?_, fun X hX l => ?_⟩
  · rcases inn z hz with hz | ⟨y, hy, rfl, o, ho, hl, hoy⟩
    · exact h.nd z hz
    · refine List.nodup_append.mpr ⟨h.nd y hy, by simp, fun a ha b hb e => ?_⟩
      rw [List.mem_singleton.mp hb] at e
      subst e
      rcases (h.sub y hy a ha).2 with e | m
      · exact far o ho hl e
      · exact tn m
  · rcases inn z hz with hz | ⟨y, hy, rfl, o, ho, hl, hoy⟩
    · obtain ⟨a, b⟩ := h.sub z hz s hs
      exact ⟨a, b.imp id fun m => List.mem_append_left _ m⟩
    · rcases List.mem_append.mp hs with hs | hs
      · obtain ⟨a, b⟩ := h.sub y hy s hs
        exact ⟨a, b.imp id fun m => List.mem_append_left _ m⟩
      · rw [List.mem_singleton.mp hs]
        exact ⟨tin, .inr (List.mem_append_right _ (List.mem_singleton.mpr rfl))⟩
  · rcases inn z hz with hz | ⟨y, hy, rfl, o, ho, hl, hoy⟩
    · exact h.led z hz
    · refine ⟨fun s hs => ?_, fun c => List.mem_append_left _ ((h.led y hy).first c)⟩
      rcases List.mem_append.mp hs with hs | hs
      · exact ((h.led y hy).led s hs).imp id fun z => lv_mono (fun x hx => List.mem_append_left _ hx) z
      · rw [List.mem_singleton.mp hs]
        exact .inr (List.mem_flatMap.mpr ⟨o, List.mem_append_left _ hoy, hl⟩)
  · obtain ⟨y, hy, e⟩ := h.all X hX l
    by_cases q : t ∈ X ∧ t ≠ (g.asks, p)
    · obtain ⟨tX, ta⟩ := q
      obtain ⟨o, oX, hl⟩ := List.mem_flatMap.mp ((l.led t tX).resolve_left ta)
      have lt := (lv_known G hl).2
      have od : o ∈ dn := by
        rcases List.mem_append.mp (ex o (hX o oX)) with m | m
        · exact m
        · rcases List.mem_cons.mp m with e2 | m
          · rw [e2] at lt
            omega
          · have := fall o m
            omega
      have oy : o ∈ y := (e o).mpr ⟨oX, .inr od⟩
      refine ⟨y ++ [t], List.mem_append_right _ (List.mem_map.mpr ⟨y, List.mem_filter.mpr ⟨hy, List.any_eq_true.mpr ⟨o, List.mem_filter.mpr ⟨hX o oX, decide_eq_true hl⟩, decide_eq_true oy⟩⟩, rfl⟩), fun s => ?_⟩
      rw [List.mem_append, List.mem_append, List.mem_singleton, e s]
      constructor
      · rintro (⟨a, b⟩ | b)
        · exact ⟨a, b.imp id .inl⟩
        · exact ⟨b ▸ tX, .inr (.inr b)⟩
      · rintro ⟨a, b | b | b⟩
        · exact .inl ⟨a, .inl b⟩
        · exact .inl ⟨a, .inr b⟩
        · exact .inr b
    · refine ⟨y, List.mem_append_left _ hy, fun s => ?_⟩
      rw [e s, List.mem_append, List.mem_singleton]
      constructor
      · rintro ⟨a, b⟩
        exact ⟨a, b.imp id .inl⟩
      · rintro ⟨a, b | b | b⟩
        · exact ⟨a, .inl b⟩
        · exact ⟨a, .inr b⟩
        · subst b
          by_cases ta : s = (g.asks, p)
          · exact ⟨a, .inl ta⟩
          · exact absurd ⟨a, ta⟩ q
theorem plansC_ok {g : Pg} (G : GW g) {p : Int} {fs : List (Str × Int)} (mem : ∀ s, s ∈ fs ↔ s ∈ foundP g p) : ∀ {r dn : List (Str × Int)} {ps : List (List (Str × Int))}, SoundC g p fs dn ps → (dn ++ r).Nodup → (∀ s ∈ fs, s ∈ dn ++ r) → (∀ s ∈ r, s ∈ fs) → r.Pairwise (fun s t => t.2 ≤ s.2) → SoundC g p fs (dn ++ r) (plansC g fs r ps)
  | [], dn, ps, h, _, _, _, _ => by
    rw [List.append_nil]
    exact h
  | t :: r, dn, ps, h, nd, ex, inr, pw => by
    have pw' := List.pairwise_cons.mp pw
    have z := h.step G mem nd ex (inr t (List.mem_cons_self ..)) pw'.1
    have e : dn ++ t :: r = (dn ++ [t]) ++ r := by rw [List.append_assoc]; rfl
    rw [e] at nd ex ⊢
    exact plansC_ok G mem z nd ex (fun s hs => inr s (List.mem_cons_of_mem _ hs)) pw'.2
/-- all led parts of what is found come, each as a list of its members -/
theorem plansC_all {g : Pg} (G : GW g) {p : Int} {fs r : List (Str × Int)} (mem : ∀ s, s ∈ fs ↔ s ∈ foundP g p) (nd : r.Nodup) (same : ∀ s, s ∈ r ↔ s ∈ fs) (pw : r.Pairwise (fun s t => t.2 ≤ s.2)) :
    (∀ y ∈ plansC g fs r [firstF g p], y.Nodup ∧ (∀ s ∈ y, s ∈ foundP g p) ∧ LedF g p y) ∧ ∀ X : List (Str × Int), (∀ s ∈ X, s ∈ foundP g p) → LedF g p X → ∃ y ∈ plansC g fs r [firstF g p], ∀ s, s ∈ y ↔ s ∈ X := by
  have z := plansC_ok G mem (SoundC.first mem) (dn := []) (r := r) (by rw [List.nil_append]; exact nd) (fun s hs => by rw [List.nil_append]; exact (same s).mpr hs) (fun s hs => (same s).mp hs) pw
  rw [List.nil_append] at z
  refine ⟨fun y hy => ⟨z.nd y hy, fun s hs => (mem s).mp (z.sub y hy s hs).1, z.led y hy⟩, fun X hX l => ?_⟩
  obtain ⟨y, hy, e⟩ := z.all X (fun s hs => (mem s).mpr (hX s hs)) l
  exact ⟨y, hy, fun s => (e s).trans ⟨fun h => h.1, fun h => ⟨h, .inr ((same s).mpr ((mem s).mpr (hX s h)))⟩⟩⟩
theorem stepC_len {g : Pg} {fs : List (Str × Int)} {t : Str × Int} {ps : List (List (Str × Int))} : (stepC g fs t ps).length ≤ 2 * ps.length := by
  unfold stepC
  rw [List.length_append, List.length_map]
  have := List.length_filter_le (fun y => (leadersC g fs t).any fun o => decide (o ∈ y)) ps
  omega
end Kn


namespace Kn
open PySem PySem.Spec PyProof.Rows L2
abbrev nWn : List Str := ["_law_book", "_law_some", "_law_found", "_law_own", "_law_duo"]
theorem scWn : FnScope nWn ["_law_book", "_law_some"] (defScope (topS 55)) := ⟨rfl, rfl, rfl, by decide +kernel, rfl, by decide +kernel, by decide +kernel⟩
abbrev nWq : List Str := ["_law_book", "_law_some", "_law_lefts", "_law_found", "_law_own", "_law_name", "_law_row", "_law_poor", "_law_duo"]
theorem scWq : FnScope nWq ["_law_book", "_law_some"] (defScope (topS 56)) := ⟨rfl, rfl, rfl, by decide +kernel, rfl, by decide +kernel, by decide +kernel⟩
abbrev nWk : List Str := ["_law_some", "_law_duo"]
theorem scWk : FnScope nWk ["_law_some"] (defScope (topS 57)) := ⟨rfl, rfl, rfl, by decide +kernel, rfl, by decide +kernel, by decide +kernel⟩
abbrev nWu : List Str := ["_law_book", "_law_some", "_law_row", "_law_duo"]
theorem row_pick {g : Pg} {t : Str × Int} {e : Ent} (h : rowOf g t.1 = some e) : canB g t.1 t.2 = (!e.has && decide (e.fee ≤ t.2)) := by
  unfold canB
  rw [h]
/-- whether a near kind is quiet, asked of its name -/
def quietB (g : Pg) (ps : List (Str × Int)) (x : Str) : Bool := match rowOf g x with
  | some e => e.has || !((lv g ps).filter fun t => decide (t.1 = x) && decide (t.2 < e.fee)).isEmpty
  | none => false
theorem quiet_eq {g : Pg} (G : GW g) (ps : List (Str × Int)) : (nearL g ps).filter (quietB g ps) = quietL g ps := by
  refine ascS_of ((ascS_le _).filter _) ((ascS_nd _).filter _) fun x => ?_
  rw [List.mem_filter]
  constructor
  · rintro ⟨hn, hq⟩
    obtain ⟨t, ht, rfl⟩ := List.mem_map.mp (mem_ascS.mp hn)
    obtain ⟨e, he⟩ := Option.isSome_iff_exists.mp (lv_all G ht)
    unfold quietB at hq
    rw [he] at hq
    dsimp only at hq
    rw [Bool.or_eq_true] at hq
    rcases hq with hh | hf
    · exact List.mem_map.mpr ⟨t, List.mem_filter.mpr ⟨ht, by rw [row_pick he, hh]; rfl⟩, rfl⟩
    · have : ((lv g ps).filter fun u => decide (u.1 = t.1) && decide (u.2 < e.fee)) ≠ [] := fun z => by rw [z] at hf; cases hf
      obtain ⟨u, hu⟩ := List.exists_mem_of_ne_nil _ this
      obtain ⟨hu1, hu2⟩ := List.mem_filter.mp hu
      rw [Bool.and_eq_true] at hu2
      have e1 : u.1 = t.1 := of_decide_eq_true hu2.1
      have e2 : u.2 < e.fee := of_decide_eq_true hu2.2
      refine List.mem_map.mpr ⟨u, List.mem_filter.mpr ⟨hu1, ?_⟩, e1⟩
      rw [row_pick (e := e) (by rw [e1]; exact he), decide_eq_false (by omega), Bool.and_false]
      rfl
  · intro h
    obtain ⟨t, ht, rfl⟩ := List.mem_map.mp h
    obtain ⟨h1, h2⟩ := List.mem_filter.mp ht
    obtain ⟨e, he⟩ := Option.isSome_iff_exists.mp (lv_all G h1)
    rw [row_pick he] at h2
    refine ⟨mem_ascS.mpr (List.mem_map.mpr ⟨t, h1, rfl⟩), ?_⟩
    unfold quietB
    rw [he]
    dsimp only
    rw [Bool.or_eq_true]
    cases hh : e.has with
    | true => exact .inl rfl
    | false =>
      refine .inr ?_
      rw [hh, Bool.not_false, Bool.true_and] at h2
      have lt : t.2 < e.fee := by
        by_cases z : e.fee ≤ t.2
        · rw [decide_eq_true z] at h2
          cases h2
        · omega
      have m : t ∈ (lv g ps).filter fun u => decide (u.1 = t.1) && decide (u.2 < e.fee) := List.mem_filter.mpr ⟨h1, by rw [decide_eq_true rfl, decide_eq_true lt]; rfl⟩
      cases z : (lv g ps).filter fun u => decide (u.1 = t.1) && decide (u.2 < e.fee) with
      | nil => rw [z] at m; cases m
      | cons => rfl
theorem prs_sel {K : PySem.W.Frag} {H : Hp} (c : Str × Int → Bool) : ∀ {vs : List V} {ss : List (Str × Int)}, PrsAt H vs ss → DpAll K H ((vs.zip ss).filterMap fun p => if c p.2 then some p.1 else none) ((ss.filter c).map dPr)
  | _, _, .nil => .nil
  | _, _, .cons (s := s) a b => by
    have ih := prs_sel (K := K) c b
    rw [List.zip_cons_cons, List.filterMap_cons, List.filter_cons]
    cases z : c s
    · simpa [z] using ih
    · simp only [z, if_true]
      exact .cons a.dp ih
theorem len_filter {α : Type} (c : α → Bool) (l : List α) : (l.filter c).length ≤ l.length := List.length_filter_le c l
/-- tuple(sorted(set(a list of texts))) -/
theorem set_tup {K : PySem.W.Frag} {w : World} {σ : L2.St} {Q : VK} {G : Hp} {D : Addr} (xs : List Str) (h : SqL K G D (xs.map V.str)) (few : xs.length < 64) (k : ∀ p H', Same G H' → H' p = some (.tup ((ascS xs).map V.str)) → Q (.ref p) H') :
    (fun x H1 => tNil σ H1 fun ys H2 => rSetTx K w (x :: ys) H2 fun x H1 => tNil σ H1 fun ys H2 => rSortedTx w (x :: ys) H2 fun x H1 => tNil σ H1 fun ys H2 =>
      ∃ p zs, x :: ys = [.ref p] ∧ ((SqL K H2 p zs ∧ ∀ l, H2 l = none → Q (.ref l) (upd H2 l (.tup zs))) ∨ (SqT K H2 p zs ∧ Q (.ref p) H2))) (.ref D) G := by
  refine ⟨D, xs, rfl, h, by omega, fun p1 n1 => ?_⟩
  have s1 : Same G (upd G p1 (SetTx w p1 (gathered xs))) := same_new n1
  refine ⟨p1, gathered xs, rfl, upd_same, Nat.lt_of_le_of_lt (len_gathered xs) few, fun ys p2 pm so n2 => ?_⟩
  have s2 := s1.trans (same_new (o := .lst (ys.map V.str)) n2)
  refine ⟨p2, _, rfl, .inl ⟨.inl (.inl upd_same), fun p3 n3 => ?_⟩⟩
  have e := sortS_of pm (sorted_leS so)
  subst e
  exact k p3 _ (s2.trans (same_new n3)) upd_same
section
variable {P : Program} {w : World} {K : PySem.W.Frag} {mg : Str → Option Value} {base : Heap}
theorem ok_wk {f : Addr} {fd : FuncData} (F : Fun K "_law_kinds" "_law_kinds" (topS 57) f fd) (mt : mg "tuple" = none) (mo : mg "sorted" = none) (mse : mg "set" = none) : FnOk P w K mg base CX0 1 f fd ["_law_some"] (spKi K) := by
  refine F.ok scWk (fun vs H Q E h => ?_) (fun cdv A outer s H vs Q E hr h => ?_)
  · obtain ⟨l, xs, ps, rfl, _⟩ := h
    rfl
  · obtain ⟨l, xs, ps, rfl, hT, hd, few, q⟩ := h
    have lx : xs.length = ps.length := by rw [dsLen hd, List.length_map]
    refine ⟨_, (pss_one (ps_ret (pe_callTy call_tuple_of (by rfl) mt (by decide +kernel) (pa_cons (pe_callB (cr_sortedTx (by rfl)) (by rfl) mo (by decide +kernel) (pa_cons (pe_callTy (cr_setTx (by rfl)) (by rfl) mse (by decide +kernel) (pa_cons (pe_lc (own := [("_law_duo", 1)]) (g := gName 1) (by rfl) scWk.nd (pi_tup (pv 0)) (blkOk_by (own := [("_law_duo", 1)]) (N := nWk) (sc := defScope (topS 57)) (by decide +kernel)) (fun _ _ _ _ _ => (pg_name (i := 1) scWk.nd rfl (Or.inl rfl))) (fun _ _ _ _ _ => pts_nil) (fun _ _ _ _ _ => (pe_ix (r := rIxT K) ix_tup (pv 1) pe_int (fun _ _ => rfl)))) pa_nil)) pa_nil)) pa_nil)))), ?_⟩
    dsimp only [tRet, tCB, tCons, tC]
    refine ⟨.ref l, rfl, l, rfl, ⟨xs, hT⟩, fun D nD => ?_⟩
    refine lc_sel (walk_tup (K := K) (a := l) (xs := xs)) ps (fun s => some (.str s.1)) nD lx.symm (by omega) (fun G s => tupS s hT) ?_ ?_
    · intro i x s G N Y hx hs sm _ y
      obtain ⟨b, rfl, hb⟩ := pr_at hd hx hs
      refine ⟨rfl, ?_⟩
      dsimp only [tYes]
      exact iteT ⟨.ref b, rfl, b, _, 0, .str s.1, rfl, rfl, tupS sm hb, atI_nat (j := 0) rfl, y _ G (Same.refl G) rfl⟩
    · intro G sm eD
      rw [fm_str] at eD
      exact set_tup (ps.map (fun s : Str × Int => s.1)) (.inl (.inl eD)) (by rw [List.length_map]; omega) fun p H' s' hp => q p H' (sm.trans s') hp
theorem ok_wn {f fL : Addr} {fd fdL : FuncData} (F : Fun K "_law_near" "_law_near" (topS 55) f fd) (Le : Def K mg "_law_left" 44 ["_law_book", "_law_duo"] fL fdL) (OL : FnOk P w K mg base CX0 2 fL fdL ["_law_book", "_law_duo"] (spLl K))
    (mt : mg "tuple" = none) (mo : mg "sorted" = none) (mse : mg "set" = none) : FnOk P w K mg base CX0 3 f fd ["_law_book", "_law_some"] (spIn K outN) := by
  refine F.ok scWn (fun vs H Q E h => ?_) (fun cdv A outer s H vs Q E hr h => ?_)
  · obtain ⟨w0, l, g, xs, ps, rfl, _⟩ := h
    rfl
  · obtain ⟨w0, q0, g, xs, ps, rfl, pg, gw, hT, hd, few, known, q⟩ := h
    have lx : xs.length = ps.length := by rw [dsLen hd, List.length_map]
    refine ⟨_, (pss_cons (ps_set (i := 2) scWn.nd rfl (.inl rfl) (pe_lst pa_nil))
      (pss_cons (ps_for PassesOwn.never rfl (pi_tup (pv 1)) (pg_name (i := 3) scWn.nd rfl (.inl rfl)) (pss_one (ps_expr (pe_bm PySem.F.plainAttrs_list PySem.F.slot_list_extend PySem.F.type_list_extend mt_extend (pv 2) (pa_cons (pe_lc (own := [("_law_duo", 4)]) (g := gName 4) (by rfl) scWn.nd (pi_list (pe_call OL hr (by rfl) Le.m Le.F.kp Le.b .nil pass0 (pa_cons (pv 0) (pa_cons (pv 3) pa_nil)))) (blkOk_by (own := [("_law_duo", 4)]) (N := nWn) (sc := defScope (topS 55)) (by decide +kernel)) (fun _ _ _ _ _ => (pg_name (i := 4) scWn.nd rfl (Or.inl rfl))) (fun _ _ _ _ _ => pts_nil) (fun _ _ _ _ _ => (pe_ix (r := rIxT K) ix_tup (pv 4) pe_int (fun _ _ => rfl)))) pa_nil)))))
      (pss_one (ps_ret (pe_callTy call_tuple_of (by rfl) mt (by decide +kernel) (pa_cons (pe_callB (cr_sortedTx (by rfl)) (by rfl) mo (by decide +kernel) (pa_cons (pe_callTy (cr_setTx (by rfl)) (by rfl) mse (by decide +kernel) (pa_cons (pv 2) pa_nil)) pa_nil)) pa_nil)))))), ?_⟩
    refine asg_seq ⟨(show 0 ≤ sizeLine by decide), fun L nL => ?_⟩
    dsimp only [gName]
    have s1 := same_new (o := .lst []) nL
    have eL : (upd H L (.lst [])) L = some (.lst []) := upd_same
    generalize upd H L (.lst []) = H1 at s1 eL ⊢
    refine ⟨.ref q0, rfl, q0, rfl, ⟨_, tupS s1 hT⟩, ?_⟩
    refine for_it (walk_tup (K := K) (a := q0) (xs := xs)) (fun i σ G => ∃ y3 : Option V, σ = [some w0, some (.ref q0), some (.ref L), y3, none] ∧ Same H G ∧ G L = some (.lst (((lv g (ps.take i)).map (·.1)).map V.str)))
      ⟨none, rfl, s1, eL⟩ (fun i σ G _ ⟨_, _, z, _⟩ => tupS z hT) ?_ ?_
    · rintro i x σ G0 G hi ⟨y3, rfl, sG, eG⟩ ⟨rfl, hx⟩
      have hs : ps[i]? = some (ps[i]'(by omega)) := List.getElem?_eq_getElem (by omega)
      generalize ps[i]'(by omega) = s0 at hs
      obtain ⟨d, hdi, dp⟩ := dsAt hd i x hx
      obtain ⟨s', hs', rfl⟩ := map_get hdi
      obtain rfl : s0 = s' := Option.some.inj (hs.symm.trans hs')
      have kn := (known s0 (List.mem_of_getElem? hs)).1
      have l1 := lv_len gw (ps.take i)
      have l2 := lv_len gw [s0]
      have e2 : lv g [s0] = lvOf g s0 := by
        show lvOf g s0 ++ [] = _
        rw [List.append_nil]
      rw [e2] at l2
      have l3 : (ps.take i).length ≤ 12 := by rw [List.length_take]; omega
      refine ⟨.ref L, rfl, .inl ⟨rfl, _, .inl (.inl eG)⟩, w0, rfl, x, rfl, w0, x, g, s0, rfl, pg.same sG, gw, dKeep sG dp, kn, fun l ys G2 s2 nl el hys => ⟨l, rfl, ⟨ys, .inl (.inl el)⟩, fun D nD => ?_⟩⟩
      have ly := hys.len
      have l2' : (lvOf g s0).length ≤ 5 := l2
      refine lc_sel (walk_list (K := K) (a := l) (xs := ys)) (lvOf g s0) (fun s => some (.str s.1)) nD ly.symm (by omega) (fun G s => .inl (.inl (s _ _ el))) ?_ ?_
      · intro j y s G3 N Y hy hs3 sm _ k
        obtain ⟨b, rfl, hb⟩ := prs_at hys hy hs3
        refine ⟨rfl, ?_⟩
        dsimp only [tYes]
        exact iteT ⟨.ref b, rfl, b, _, 0, .str s.1, rfl, rfl, .inl (.inl (sm _ _ hb)), atI_nat (j := 0) rfl, k _ G3 (Same.refl G3) rfl⟩
      · intro G3 sm eD
        rw [fm_str] at eD
        have s23 := s2.trans sm
        refine ⟨L, D, _, _, rfl, rfl, s23 _ _ eG, eD, Nat.le_trans (show _ ≤ 1000 by simp only [List.length_map]; omega) (by decide), ?_⟩
        refine ⟨_, rfl, putS (sG.trans s23) nL, ?_⟩
        rw [upd_same, lv_snoc hs, List.map_append, List.map_append]
    · rintro σ G ⟨y3, rfl, sG, eG⟩
      rw [lx, List.take_length] at eG
      have l1 := lv_len gw ps
      dsimp only [tRet, tCB, tCons, tC]
      refine ⟨.ref L, rfl, ?_⟩
      exact set_tup ((lv g ps).map (fun s : Str × Int => s.1)) (.inl (.inl eG)) (by rw [List.length_map]; omega) fun p H' s' hp => q p H' (sG.trans s') hp
theorem ok_wq {f fL fN fK : Addr} {fd fdL fdN fdK : FuncData} (F : Fun K "_law_quiet" "_law_quiet" (topS 56) f fd) (Le : Def K mg "_law_left" 44 ["_law_book", "_law_duo"] fL fdL) (OL : FnOk P w K mg base CX0 2 fL fdL ["_law_book", "_law_duo"] (spLl K))
    (Ne : Def K mg "_law_near" 55 ["_law_book", "_law_some"] fN fdN) (ON : FnOk P w K mg base CX0 3 fN fdN ["_law_book", "_law_some"] (spIn K outN)) (Ki : Def K mg "_law_kind" 43 ["_law_book", "_law_name"] fK fdK) (OK : FnOk P w K mg base CX0 1 fK fdK ["_law_book", "_law_name"] (spLk K))
    (mt : mg "tuple" = none) : FnOk P w K mg base CX0 4 f fd ["_law_book", "_law_some"] (spIn K outQ) := by
  refine F.ok scWq (fun vs H Q E h => ?_) (fun cdv A outer s H vs Q E hr h => ?_)
  · obtain ⟨w0, l, g, xs, ps, rfl, _⟩ := h
    rfl
  · obtain ⟨w0, q0, g, xs, ps, rfl, pg, gw, hT, hd, few, known, q⟩ := h
    have lx : xs.length = ps.length := by rw [dsLen hd, List.length_map]
    have hr1 : Room 1 _ := hr.mono (by decide)
    have hr2 : Room 2 _ := hr.mono (by decide)
    refine ⟨_, (pss_cons (ps_par (i := 2) (j := 3) (by rfl) scWq.nd rfl rfl (by decide) rfl rfl (pa_cons (pe_lst pa_nil) (pa_cons (pe_lst pa_nil) pa_nil)) (by rfl))
      (pss_cons (ps_for PassesOwn.never rfl (pi_tup (pv 1)) (pg_name (i := 4) scWq.nd rfl (.inl rfl)) (pss_one (ps_expr (pe_bm PySem.F.plainAttrs_list PySem.F.slot_list_extend PySem.F.type_list_extend mt_extend (pv 2) (pa_cons (pe_call OL hr2 (by rfl) Le.m Le.F.kp Le.b .nil pass0 (pa_cons (pv 0) (pa_cons (pv 4) pa_nil))) pa_nil)))))
      (pss_cons (ps_for PassesOwn.never rfl (pi_tup (pe_call ON hr (by rfl) Ne.m Ne.F.kp Ne.b .nil pass0 (pa_cons (pv 0) (pa_cons (pv 1) pa_nil)))) (pg_name (i := 5) scWq.nd rfl (.inr rfl)) (pss_cons (ps_set (i := 6) scWq.nd rfl (.inr rfl) (pe_call OK hr1 (by rfl) Ki.m Ki.F.kp Ki.b .nil pass0 (pa_cons (pv 0) (pa_cons (pv 5) pa_nil))))
      (pss_cons (ps_setLc (i := 7) (own := [("_law_duo", 8)]) (g := gName 8) (by rfl) scWq.nd rfl rfl (sw_true rfl rfl rfl (by decide +kernel)) (pi_list (pv 2)) (blkOk_by (own := [("_law_duo", 8)]) (N := nWq) (sc := defScope (topS 56)) (by decide +kernel)) (fun _ _ _ _ _ => (pg_name (i := 8) scWq.nd rfl (Or.inl rfl))) (fun _ _ _ _ _ => (pts_one (PW.pt (pw_and (pt_cmpR op_eq (pe_ix (r := rIxT K) ix_tup (pv 8) pe_int (fun _ _ => rfl)) (pv 5) (nomark _)) (pw_and1 (pt_cmpR op_lt (pe_ix (r := rIxT K) ix_tup (pv 8) pe_int (fun _ _ => rfl)) (pe_ix (r := rIxT K) ix_tup (pv 6) pe_int (fun _ _ => rfl)) (nomark _))))))) (fun _ _ _ _ _ => (pv 8)))
      (pss_one (ps_if (PW.pt (pw_or (pt_val (pe_ix ix_tup (pv 6) pe_int (fun _ _ => rfl))) (pw_or1 (pt_cmpR (op_neD hr.units) (pv 7) (pe_lst pa_nil) (nomark _))))) (pss_one (ps_expr (pe_bm PySem.F.plainAttrs_list PySem.F.slot_list_append PySem.F.type_list_append mt_append (pv 3) (pa_cons (pv 5) pa_nil)))) pss_nil)))))
      (pss_one (ps_ret (pe_callTy call_tuple_of (by rfl) mt (by decide +kernel) (pa_cons (pv 3) pa_nil))))))), ?_⟩
    have hu := hr.units
    refine ⟨(show 0 ≤ sizeLine by decide), fun L nL => ⟨(show 0 ≤ sizeLine by decide), fun L2 nL2 => ⟨.ref L, .ref L2, rfl, ?_⟩⟩⟩
    have s1 := (same_new (o := .lst []) nL).trans (same_new (o := .lst []) nL2)
    have nH2 : H L2 = none := (same_new (o := .lst []) nL).free nL2
    have ne : L ≠ L2 := by
      rintro rfl
      rw [upd_same] at nL2
      cases nL2
    have eL : (upd (upd H L (.lst [])) L2 (.lst [])) L = some (.lst []) := (upd_ne ne).trans upd_same
    have eF : (upd (upd H L (.lst [])) L2 (.lst [])) L2 = some (.lst []) := upd_same
    generalize upd (upd H L (.lst [])) L2 (.lst []) = H1 at s1 eL eF ⊢
    refine ⟨.ref q0, rfl, q0, rfl, ⟨_, tupS s1 hT⟩, ?_⟩
    refine for_it (walk_tup (K := K) (a := q0) (xs := xs)) (fun i σ G => ∃ (y4 : Option V) (acc : List V), σ = [some w0, some (.ref q0), some (.ref L), some (.ref L2), y4, none, none, none, none] ∧ Same H G ∧ G L = some (.lst acc) ∧ PrsAt G acc (lv g (ps.take i)) ∧ G L2 = some (.lst []))
      ⟨none, [], rfl, s1, eL, .nil, eF⟩ (fun i σ G _ ⟨_, _, _, z, _⟩ => tupS z hT) ?_ ?_
    · rintro i x σ G0 G hi ⟨y4, acc, rfl, sG, eG, hacc, eF⟩ ⟨rfl, hx⟩
      obtain ⟨d, hdi, dp⟩ := dsAt hd i x hx
      obtain ⟨s0, hs, rfl⟩ := map_get hdi
      have kn := (known s0 (List.mem_of_getElem? hs)).1
      have l1 := lv_len gw (ps.take i)
      have l2 := lv_len gw [s0]
      have e2 : lv g [s0] = lvOf g s0 := by
        show lvOf g s0 ++ [] = _
        rw [List.append_nil]
      rw [e2] at l2
      have l2' : (lvOf g s0).length ≤ 5 := l2
      have l3 : (ps.take i).length ≤ 12 := by rw [List.length_take]; omega
      have la := hacc.len
      refine ⟨.ref L, rfl, .inl ⟨rfl, _, .inl (.inl eG)⟩, w0, rfl, x, rfl, w0, x, g, s0, rfl, pg.same sG, gw, dKeep sG dp, kn, fun l ys G2 s2 nl el hys => ?_⟩
      have ly := hys.len
      have t3 : TS G2 (upd G2 L (.lst (acc ++ ys))) := ts_lst (s2 _ _ eG)
      refine ⟨L, l, acc, ys, rfl, rfl, s2 _ _ eG, el, Nat.le_trans (show _ ≤ 1000 by omega) (by decide), ?_⟩
      refine ⟨_, acc ++ ys, rfl, putS (sG.trans s2) nL, upd_same, ?_, (upd_ne ne.symm).trans (s2 _ _ eF)⟩
      rw [lv_snoc hs]
      exact PrsAt.app ((hacc.ts (ts_same s2)).ts t3) (hys.ts t3)
    · rintro σ G ⟨y4, acc, rfl, sG, eG, hacc, eF⟩
      rw [lx, List.take_length] at hacc
      have l1 := lv_len gw ps
      have la := hacc.len
      refine ⟨w0, rfl, .ref q0, rfl, w0, q0, g, xs, ps, rfl, pg.same sG, gw, tupS sG hT, dsKeep sG hd, few, known, fun pn H2 s2 en => ⟨pn, rfl, ⟨_, .inl (.inl en)⟩, ?_⟩⟩
      have ln : (nearL g ps).length ≤ 60 := by
        have := ascS_len ((lv g ps).map (·.1))
        rw [List.length_map] at this
        show (ascS _).length ≤ 60
        omega
      have sG2 := sG.trans s2
      have eG2 := s2 _ _ eG
      have eF2 := s2 _ _ eF
      have hacc2 := hacc.ts (ts_same s2)
      refine for_it (walk_tup (K := K) (a := pn) (xs := (nearL g ps).map V.str)) (fun i σ G => ∃ (y5 y6 y7 : Option V), σ = [some w0, some (.ref q0), some (.ref L), some (.ref L2), y4, y5, y6, y7, none] ∧ (∀ b o, b ≠ L2 → H2 b = some o → G b = some o) ∧ Same H G ∧ PrsAt G acc (lv g ps) ∧ G L2 = some (.lst ((((nearL g ps).take i).filter (quietB g ps)).map V.str)))
        ⟨_, _, _, rfl, fun _ _ _ h => h, sG2, hacc2, eF2⟩ (fun i σ G _ ⟨_, _, _, _, z, _⟩ => .inl (.inl (z _ _ (fun e => by rw [e, eF2] at en; cases en) en))) ?_ ?_
      · rintro i x σ G0 G3 hi ⟨y5, y6, y7, rfl, keep, s3, ha3, e3⟩ ⟨rfl, hx⟩
        obtain ⟨n, hn, rfl⟩ := map_get hx
        have nm := List.mem_of_getElem? hn
        obtain ⟨t, ht, tn⟩ := List.mem_map.mp (mem_ascS.mp nm)
        obtain ⟨e, he⟩ := Option.isSome_iff_exists.mp (lv_all gw ht)
        rw [tn] at he
        have fe := gw.few
        have eL3 : G3 L = some (.lst acc) := keep _ _ ne eG2
        have l6 : (((nearL g ps).take i).filter (quietB g ps)).length ≤ 60 := by
          have a1 := len_filter (quietB g ps) ((nearL g ps).take i)
          rw [List.length_take] at a1
          omega
        refine ⟨w0, rfl, .str n, rfl, w0, g, n, e, rfl, pg.same s3, by omega, he, fun r G4 s4 hv => ?_⟩
        obtain ⟨pe, qe, rfl, hpe, hqe⟩ := id hv
        dsimp only [gName]
        have eL4 := s4 _ _ eL3
        have ha4 := ha3.ts (ts_same s4)
        refine ⟨.ref L, rfl, L, rfl, ⟨_, .inl (.inl eL4)⟩, fun D nD => ?_⟩
        have neD : L2 ≠ D := ne_of_none (s4 _ _ e3) nD
        refine lc_sel (walk_list (K := K) (a := L) (xs := acc)) (acc.zip (lv g ps)) (fun c => if decide (c.2.1 = n) && decide (c.2.2 < e.fee) then some c.1 else none) nD (by rw [List.length_zip]; omega) (by omega) (fun G s => .inl (.inl (s _ _ eL4))) ?_ ?_
        · intro j y c G5 N Y hy hc sm no yes
          obtain ⟨hy', hs'⟩ := List.getElem?_zip_eq_some.mp hc
          obtain ⟨b, rfl, hb⟩ := prs_at ha4 hy hs'
          have hb5 := sm _ _ hb
          have e1 : c.1 = .ref b := Option.some.inj (hy'.symm.trans hy)
          refine ⟨rfl, ?_⟩
          refine ⟨.ref b, rfl, b, _, 0, .str c.2.1, rfl, rfl, .inl (.inl hb5), atI_nat (j := 0) rfl, .str n, rfl, rfl, _, rfl, ?_⟩
          rw [dec_str]
          cases z1 : decide (c.2.1 = n)
          · exact iteF (iteF (no G5 (Same.refl _) (by rw [z1]; rfl)))
          · refine iteT ⟨.ref b, rfl, b, _, 1, .int c.2.2, rfl, rfl, .inl (.inl hb5), atI_nat (j := 1) rfl, .ref pe, rfl, pe, _, 1, .int e.fee, rfl, rfl, tupS sm hpe, atI_nat (j := 1) rfl, c.2.2, e.fee, rfl, rfl, _, rfl, ?_⟩
            cases z2 : decide (c.2.2 < e.fee)
            · exact iteF (no G5 (Same.refl _) (by rw [z1, z2]; rfl))
            · exact iteT ⟨.ref b, rfl, yes _ G5 (Same.refl _) (by rw [z1, z2, e1]; rfl)⟩
        · intro G5 sm eD
          have ds := (prs_sel (K := K) (fun t => decide (t.1 = n) && decide (t.2 < e.fee)) ha4)
          have qe' : quietB g ps n = (e.has || !((lv g ps).filter fun t => decide (t.1 = n) && decide (t.2 < e.fee)).isEmpty) := by
            unfold quietB
            rw [he]
          have tk : (nearL g ps).take (i + 1) = (nearL g ps).take i ++ [n] := by rw [List.take_add_one, hn]; rfl
          have s35 := s4.trans sm
          have e5 := s35 _ _ e3
          have keep5 : ∀ b o, b ≠ L2 → H2 b = some o → G5 b = some o := fun b o nb h => s35 _ _ (keep b o nb h)
          have fin : ∀ (b : Bool) (G6 : Hp), Same G5 G6 → quietB g ps n = b → (b = true → ∀ (R : Hp → Prop), (∀ J, J L2 = some (.lst ((((nearL g ps).take (i + 1)).filter (quietB g ps)).map V.str)) → (∀ b o, b ≠ L2 → H2 b = some o → J b = some o) → Same H J → PrsAt J acc (lv g ps) → R J) → R (upd G6 L2 (.lst ((((nearL g ps).take i).filter (quietB g ps)).map V.str ++ [.str n])))) ∧
              (b = false → G6 L2 = some (.lst ((((nearL g ps).take (i + 1)).filter (quietB g ps)).map V.str))) := fun b G6 s6 eb => by
            refine ⟨fun hb R k => k _ ?_ (fun b o nb h => by rw [upd_ne nb]; exact s6 _ _ (keep5 b o nb h)) (putS ((s3.trans s35).trans s6) nH2) ((ha4.ts (ts_same (sm.trans s6))).ts (ts_lst (s6 _ _ e5))), fun hb => ?_⟩
            · rw [upd_same, tk, List.filter_append, List.filter_cons, eb, hb]
              simp
            · rw [tk, List.filter_append, List.filter_cons, eb, hb]
              rw [s6 _ _ e5]
              simp
          dsimp only [gName]
          refine ⟨.ref pe, rfl, pe, _, 2, .bl e.has, rfl, rfl, tupS sm hpe, atI_nat (j := 2) rfl, e.has, rfl, ?_⟩
          cases hh : e.has
          · refine iteF ⟨.ref D, rfl, (show 0 ≤ sizeLine by decide), fun z nz => ?_⟩
            have sz := same_new (o := .lst []) nz
            have oks : ∀ t ∈ (lv g ps).filter fun t => decide (t.1 = n) && decide (t.2 < e.fee), goodD (dPr t) = true := fun t ht => by
              obtain ⟨s, hs, hts⟩ := List.mem_flatMap.mp (List.mem_filter.mp ht).1
              exact okP_left gw (known s hs) hts
            refine ⟨_, .list [], dp_lst (sz _ _ eD) (dsKeep (sm.trans sz) ds), dp_lst upd_same .nil, (prs_shaped oks).1, rfl, _, rfl, ?_⟩
            rw [eqv_nil2]
            rw [hh, Bool.false_or] at qe'
            have em : (((lv g ps).filter fun t => decide (t.1 = n) && decide (t.2 < e.fee)).map dPr).isEmpty = ((lv g ps).filter fun t => decide (t.1 = n) && decide (t.2 < e.fee)).isEmpty := by
              cases (lv g ps).filter fun t => decide (t.1 = n) && decide (t.2 < e.fee) <;> rfl
            rw [em]
            cases zz : ((lv g ps).filter fun t => decide (t.1 = n) && decide (t.2 < e.fee)).isEmpty
            · rw [zz] at qe'
              refine iteT ⟨.ref L2, rfl, .inl ⟨rfl, _, .inl (.inl (sz _ _ e5))⟩, .str n, rfl, L2, _, _, rfl, rfl, sz _ _ e5, small' (by rw [List.length_map]; omega), ?_⟩
              exact (fin true _ sz qe').1 rfl _ fun J j1 j2 j3 j4 => ⟨_, _, _, rfl, j2, j3, j4, j1⟩
            · rw [zz] at qe'
              exact iteF ⟨_, _, _, rfl, fun b o nb h => sz _ _ (keep5 b o nb h), (s3.trans s35).trans sz, ha4.ts (ts_same (sm.trans sz)), (fin false _ sz qe').2 rfl⟩
          · rw [hh, Bool.true_or] at qe'
            refine iteT (iteT ⟨.ref L2, rfl, .inl ⟨rfl, _, .inl (.inl e5)⟩, .str n, rfl, L2, _, _, rfl, rfl, e5, small' (by rw [List.length_map]; omega), ?_⟩)
            exact (fin true _ (Same.refl _) qe').1 rfl _ fun J j1 j2 j3 j4 => ⟨_, _, _, rfl, j2, j3, j4, j1⟩
      · rintro σ G3 ⟨y5, y6, y7, rfl, keep, s3, ha3, e3⟩
        rw [List.length_map, List.take_length, quiet_eq gw ps] at e3
        refine ⟨.ref L2, rfl, L2, _, rfl, .inl ⟨.inl (.inl e3), fun p np => ?_⟩⟩
        exact q p _ (s3.trans (same_new np)) upd_same
end
end Kn


/-! Kn: parts of tuples of data, and two of them together; parts of texts. -/
namespace Kn
open PySem PySem.Spec PyProof.Rows L2
section
variable {K : PySem.W.Frag} {H : Hp} {Q : VK} {r r2 : V} {ds es : List PyData}
theorem slA_any {lo hi : Option Int} (h : Dp K H r (.tuple ds))
    (q : ∀ (r' : V) (H' : Hp), Same H H' → Dp K H' r' (.tuple ((ds.drop (HT.sIx ds.length 0 lo)).take (HT.sIx ds.length ds.length hi - HT.sIx ds.length 0 lo))) → Q r' H') : rSlA K r lo hi H Q := by
  cases h with
  | tup ht hd =>
    rename_i a xs
    have l := dsLen hd
    refine ⟨a, xs, rfl, ht, fun w => ?_, fun _ p np => ?_⟩
    · rw [l] at w
      refine q _ H (Same.refl H) ?_
      rw [w.1, w.2, List.drop_zero, Nat.sub_zero, List.take_length]
      exact .tup ht hd
    · have s := same_new (o := .tup (cutV xs lo hi)) np
      refine q _ _ s (.tup (.inl (.inl upd_same)) ?_)
      unfold cutV
      rw [l]
      exact dsKeep (same_new np) (dsTake _ (dsDrop _ hd))
theorem slA_take {k : Nat} (h : Dp K H r (.tuple ds)) (hk : k ≤ ds.length) (q : ∀ (r' : V) (H' : Hp), Same H H' → Dp K H' r' (.tuple (ds.take k)) → Q r' H') : rSlA K r none (some (k : Int)) H Q :=
  slA_any h fun r' H' s d => q r' H' s (by
    rw [HT.sIx_none, HT.sIx_nat, Nat.min_eq_left hk, List.drop_zero, Nat.sub_zero] at d
    exact d)
theorem slA_drop {k : Nat} (h : Dp K H r (.tuple ds)) (q : ∀ (r' : V) (H' : Hp), Same H H' → Dp K H' r' (.tuple (ds.drop k)) → Q r' H') : rSlA K r (some (k : Int)) none H Q :=
  slA_any h fun r' H' s d => q r' H' s (by
    rw [HT.sIx_none, HT.sIx_nat, List.take_of_length_le (by rw [List.length_drop]; exact Nat.le_refl _)] at d
    by_cases l : k ≤ ds.length
    · rw [Nat.min_eq_left l] at d
      exact d
    · rw [Nat.min_eq_right (by omega), List.drop_of_length_le (Nat.le_refl _)] at d
      rw [List.drop_of_length_le (by omega)]
      exact d)
theorem slA_mid {i j : Nat} (h : Dp K H r (.tuple ds)) (q : ∀ (r' : V) (H' : Hp), Same H H' → Dp K H' r' (.tuple ((ds.drop (min i ds.length)).take (min j ds.length - min i ds.length))) → Q r' H') : rSlA K r (some (i : Int)) (some (j : Int)) H Q :=
  slA_any h fun r' H' s d => q r' H' s (by
    rw [HT.sIx_nat, HT.sIx_nat] at d
    exact d)
theorem catA (h : Dp K H r (.tuple ds)) (k : Dp K H r2 (.tuple es)) (few : ds.length + es.length ≤ 1000) (q : ∀ (r' : V) (H' : Hp), Same H H' → Dp K H' r' (.tuple (ds ++ es)) → Q r' H') : rCatA K r r2 H Q := by
  cases h with
  | tup h1 h2 =>
    rename_i a xs
    cases k with
    | tup k1 k2 =>
      rename_i b ys
      refine ⟨a, b, xs, ys, rfl, rfl, h1, k1, by rw [dsLen h2, dsLen k2]; exact Nat.le_trans few (by decide), fun e => ?_, fun _ e => ?_, fun _ _ p np => ?_⟩
      · subst e
        cases h2
        exact q _ H (Same.refl H) (.tup k1 k2)
      · subst e
        cases k2
        rw [List.append_nil] at q
        exact q _ H (Same.refl H) (.tup h1 h2)
      · have s := same_new (o := .tup (xs ++ ys)) np
        exact q _ _ s (.tup (.inl (.inl upd_same)) (dsKeep s (dsApp h2 k2)))
end
/-! ### texts -/
def asciiB (x : Str) : Bool := x.cps.toList.all fun c => decide (c < 128)
theorem ascii_cut {z : Str} (h : asciiB z = true) (lo hi : Option Int) : asciiB (cutS z lo hi) = true := by
  refine List.all_eq_true.mpr fun c hc => ?_
  have hc : c ∈ ((z.cps.toList.drop (HT.sIx z.length 0 lo)).take (HT.sIx z.length z.length hi - HT.sIx z.length 0 lo)).toArray.toList := hc
  exact List.all_eq_true.mp h c (List.mem_of_mem_drop (List.mem_of_mem_take hc))
theorem ascii_app {x y : Str} (h : asciiB x = true) (k : asciiB y = true) : asciiB (x ++ y) = true := by
  unfold asciiB at *
  rw [Str.cps_append, Array.toList_append, List.all_append, h, k]
  rfl
theorem slen_app (x y : Str) : (x ++ y).length = x.length + y.length := by
  show (x ++ y).cps.size = x.cps.size + y.cps.size
  rw [Str.cps_append, Array.size_append]
end Kn


namespace Kn
open PySem PySem.Spec PyProof.Rows L2
/-! ### sum of a tuple of numbers -/
section
variable {prog : Program} {w : World} {A : Around} {E : Value → Shared → Prop} {s : Shared} {l : Addr} {xs : Array (Int × Tok)}
theorem iter_intTup {Q : Value → Shared → Prop} (hl : s.heap.IsTuple l (intItems xs))
    (h : ∀ s₂ : Shared, s₂ = { s with heap := s.heap.push { cls := .type "tuple_iterator", data := .fields #[.ref l, .int 0 0] } } →
      (s₂.heap.IsTupleIter s.heap.objs.size l 0 ∧ s₂.heap.IsTuple l (intItems xs)) → (∀ b ∈ [s.heap.objs.size, l], b < s₂.heap.objs.size) → l ≠ s.heap.objs.size → Q (.ref s.heap.objs.size) s₂) :
    wpAny (model prog w) A (pyIter (.ref l)) Q E s := by
  have hlt : l < s.heap.objs.size := by obtain ⟨_, e, _⟩ := hl; exact Heap.lt_size e
  refine wpAny_pyIter_tuple hl (h _ rfl ⟨⟨_, Heap.get?_push_size _ rfl, rfl, rfl⟩, hl.push _⟩ (fun b hb => ?_) (Nat.ne_of_lt hlt))
  show b < (s.heap.push _).objs.size
  rw [Heap.size_push]
  rcases List.mem_cons.mp hb with rfl | hb
  · exact Nat.lt_succ_self _
  · rcases List.mem_cons.mp hb with rfl | hb
    · exact Nat.lt_succ_of_lt hlt
    · cases hb
theorem old_keptT {h' : Heap} (hk : ∀ b o, b ∉ [s.heap.objs.size] → (s.heap.push { cls := .type "tuple_iterator", data := .fields #[.ref l, .int 0 0] }).get? b = some o → h'.get? b = some o) :
    ∀ b o, s.heap.get? b = some o → h'.get? b = some o := fun b o e => by
  refine hk b o (fun hm => ?_) (Heap.get?_push_of_some _ e)
  rcases List.mem_cons.mp hm with e1 | hm
  · exact absurd (e1 ▸ Heap.lt_size e) (Nat.lt_irrefl _)
  · cases hm
theorem sum_tupG {Q : Value → Shared → Prop} (hh : A.handled = none) (hl : s.heap.IsTuple l (intItems xs))
    (h : ∀ h' tk t', (∀ b o, s.heap.get? b = some o → h'.get? b = some o) → Q (.int (preSum (numAt xs) xs.size) t') { s with heap := h', toks := tk }) :
    wpAny (model prog w) A (call (.builtin "sum") [.ref l]) Q E s := by
  refine call_sum_walkG (iter_intTup hl fun s₂ e st hfp hlI => ?_)
  subst e
  refine ⟨_, _, _, _, _, _, numAt xs, rfl, Walks.tuple (A := A.in1) hh _ l hlI (intItems xs), st, hfp, (fun _ _ => intItems_at), fun h' tk t' hk => ?_⟩
  have := h h' tk t' (old_keptT hk)
  simpa [intItems] using this
theorem sum_rawT {its : List Value} {ns : List Int} {Q : Value → Shared → Prop} (hh : A.handled = none) (hl : s.heap.IsTuple l its.toArray) (hi : IntsAre its ns)
    (h : ∀ h' tk t', (∀ b o, s.heap.get? b = some o → h'.get? b = some o) → Q (.int ns.sum t') { s with heap := h', toks := tk }) : wpAny (model prog w) A (call (.builtin "sum") [.ref l]) Q E s := by
  obtain ⟨xs, e⟩ := hi.allInts.items
  have hn : numsOf (intItems xs).toList = ns := by rw [← e]; exact hi.numsOf
  rw [nums_intItems] at hn
  rw [e] at hl
  refine sum_tupG hh hl fun h' tk t' hk => ?_
  have := h h' tk t' hk
  rw [preSum_eq, List.take_of_length_le (by simp), hn]; exact this
end
def rSumT (K : PySem.W.Frag) : List V → Hp → VK → Prop := fun vs H Q => ∃ (a : Addr) (ns : List Int), vs = [V.ref a] ∧ SqT K H a (ns.map V.int) ∧ Q (.int ns.sum) H
section
variable {X : Cx}
theorem cr_sumT (hc : X.calm = true) : CallR X (.builtin "sum") (rSumT X.K) := by
  intro pins s σ H vs us Q I r h
  obtain ⟨a, ns, rfl, hs, q⟩ := h
  obtain ⟨its, rv, hl, _⟩ := I.tuple hs
  rw [Vals.ref1 r]
  exact sum_rawT (I.ok.hd hc) hl rv.ints fun h' tk t' hk => ⟨.int _, H, I.kept hk, ⟨_, rfl⟩, q⟩
/-! ### tuple * n, n from 1 on -/
theorem tuple_mulW1 (l : Addr) (items : Array Value) (n : Nat) (dd : Option Addr) (sl : Array (Option Value)) (u : Tok) :
    Meets (Builtin.«tuple.__mul__» ⟨[.ref l, .int 1 u], []⟩) (fun _ R s => s.heap.get? l = some { cls := .type "tuple", dict := dd, data := .seq items n, slots := sl } ∧ R (.ok (.ret (Value.ref l))) s) :=
  .of_wp fun prog w A R s h => by
    obtain ⟨hp, g, d, tk, os⟩ := s
    obtain ⟨hl, h⟩ := h
    have f1 := AutoSeq1.idx_int
    wp_walk using wpAny_loadPart' hl
    all_goals exact ⟨_, rfl, h⟩
def rMulT (K : PySem.W.Frag) : R2 := fun x y H Q => ∃ l k xs, x = .ref l ∧ y = .int k ∧ SqT K H l xs ∧ xs ≠ [] ∧ 1 ≤ k ∧ k ≤ 1000 ∧ xs.length ≤ 1000 ∧ (k = 1 → Q (.ref l) H) ∧ ∀ p, H p = none → Q (.ref p) (upd H p (.tup (List.replicate k.toNat xs).flatten))
theorem op_mulT : OpR X (binaryOp .Mult) (rMulT X.K) := by
  intro pins s σ H x y v u Q I rx ry h
  obtain ⟨l, k, xs, rfl, rfl, hT, hne, h1, h2, hz, q1, q⟩ := h
  by_cases k1 : k = 1
  · subst k1
    cases rx
    obtain ⟨t, rfl⟩ := ry
    obtain ⟨its, r, ⟨⟨cls, dd, data, sl⟩, ho, hc, n, hd⟩, hs⟩ := I.tuple hT
    simp only at hc hd
    subst hc hd
    refine wpAny_binaryOp_repeat_ref (T := "tuple") (U := "int") (by decide) ⟨_, ho, rfl⟩ (fun s' => typeIs_int s' 1 t) noFill_tuple_mul F.fills_int_mul F.slot_int_rmul repeat_tuple F.slot_int_index.lookup
      (call_meets F.slot_int_rmul (typeIs_int s 1 t) F.entry_int_rmul (F.args_int_rmul_2 _ _) (int_rmul_tuple 1 t l its.toArray n dd sl)
        ⟨ho, rfl, ⟨_, ho, rfl⟩, call_meets F.slot_tuple_mul ⟨_, ho, rfl⟩ F.entry_tuple_mul (F.args_tuple_mul_2 _ _) (tuple_mulW1 l its.toArray n dd sl t) ⟨ho, ?_⟩⟩)
    exact ⟨.ref l, H, I, rfl, q1 rfl⟩
  · exact op_repT pins s σ H _ _ v u Q I rx ry ⟨l, k, xs, rfl, rfl, hT, hne, by omega, h2, hz, q⟩
/-! ### tuple(list), the new object known -/
def rTupF (K : PySem.W.Frag) : List V → Hp → VK → Prop := fun xs H Q => ∃ p ys, xs = [.ref p] ∧ SqL K H p ys ∧ ∀ l o, H l = none → o.cls = .type "tuple" → o.dict = none → Q (.ref l) (upd H l (.frz o (.tup ys)))
theorem call_tupleF : CallR X (.type "tuple") (rTupF X.K) := by
  intro pins s σ H xs us Q I r h
  obtain ⟨p, ys, rfl, hq, q⟩ := h
  obtain ⟨u, rfl, rx⟩ := vals1 r
  cases rx
  obtain ⟨its, r', pl, hz⟩ := I.list hq
  have hlen := r'.length
  refine call_tuple_list pl.isList (fun h' kp => ?_) (by simp only [List.size_toArray] <;> omega)
  have I1 : Inv X pins σ H { s with heap := h' } := I.kept (t' := s.toks) kp
  have I2 : Inv X pins σ (upd H h'.objs.size (.frz { cls := .type "tuple", data := .seq its.toArray } (.tup ys))) { s with heap := h'.push { cls := .type "tuple", data := .seq its.toArray } } :=
    I1.laid (t' := s.toks) (fun b o e => Heap.get?_push_of_some _ e) (Nat.le_refl _) (show ObjOk X.prog X.w _ _ _ (.frz _ (.tup ys)) from ⟨Heap.get?_push_size _ rfl, hz, its, r', IsTup.new _ _⟩)
  exact ⟨.ref h'.objs.size, _, I2, rfl, q _ _ (I1.hok.fresh (Nat.le_refl _)) rfl rfl⟩
/-! ### t.index(x), t a tuple whose object is known -/
def tTIdx (K : PySem.W.Frag) (to : TE) (t : TA) : TE := fun σ H Q => to σ H fun x H1 => ∃ p o ys, x = .ref p ∧ H1 p = some (.frz o (.tup ys)) ∧ o.cls = .type "tuple" ∧ o.dict = none ∧
  t σ H1 fun xs H2 => ∃ (zs : List Str) (z : Str) (j : Nat), xs = [.str z] ∧ SqT K H2 p (zs.map V.str) ∧ zs[j]? = some z ∧ (∀ m, m < j → zs[m]? ≠ some z) ∧ Q (.int (j : Nat)) H2
variable {o e : Expr} {es : List Expr} {to : TE} {t : TA} {apos cpos : Pos}
theorem pe_tidx (ho : PE X o to) (ha : PA X (e :: es) t)
    (hbase : attributeBase o "index" X.env (eval o X.env) = eval o X.env := by rfl)
    (hfew : ((backTo cpos (starEach (e :: es) X.env)).all (fun x => !x.1) && (backToKw cpos (keywordEach [] X.env)).all (fun x => x.1.isSome)
      && decide ((e :: es).length + ([] : List Keyword).length + (if ([] : List Keyword).isEmpty then 0 else 1) < 30)) = true := by rfl)
    (hline : (apos.endLine == cpos.line) = true := by rfl) (hs : starEach (e :: es) X.env = (false, eval e X.env) :: starEach es X.env := by rfl) (hplain : (backTo cpos (starEach es X.env)).any (·.1) = false := by rfl) :
    PE X (.Call (.Attribute o "index" apos) (e :: es) [] cpos) (tTIdx X.K to t) := by
  refine ⟨fun pins s σ H Q I h => ?_⟩
  refine wpAny_Call_method_late hbase hfew hline rfl (thn (ho.run pins s σ H _ I h) fun v s1 ⟨x, H1, I1, r1, q1⟩ => ?_)
  obtain ⟨p, ob, ys, rfl, hp, hc, hd, q1⟩ := q1
  have hb : s1.heap.get? p = some ob := (I1.hok p _ hp).1
  cases r1
  refine ⟨"tuple", "tuple.index", PySem.F.plainAttrs_tuple, PySem.F.slot_tuple_index, PySem.F.type_tuple_index, ⟨ob, hb, hc⟩, fun a e => ?_, ?_⟩
  · cases e
    exact ⟨ob, hb, hd⟩
  have hA := ha.run cpos pins s1 σ H1 _ I1 q1
  rw [hs] at hA ⊢
  refine Calls.callWith_builtin (by show (false || (backTo cpos (starEach es X.env)).any (·.1)) = false; rw [hplain] <;> rfl) (Calls.evalArgs_plain ?_)
  exact thn hA fun us s2 ⟨vs, H2, I2, r2, zs, z, j, e1, e2, e3, e4, q2⟩ => mt_tup_index pins s2 σ H2 (.ref p) vs (.ref p) us Q I2 rfl r2 ⟨p, zs, z, j, rfl, e1, e2, e3, e4, q2⟩
end
end Kn


namespace Kn
open PySem PySem.Spec PyProof.Rows L2
abbrev nOk : List Str := ["web", "plan", "near", "quiet", "kinds", "i", "kind"]
theorem scOk : FnScope nOk ["web", "plan"] (defScope (topS 34)) := ⟨rfl, rfl, rfl, by decide +kernel, rfl, by decide +kernel, by decide +kernel⟩
def openB (g : Pg) (ps : List (Str × Int)) (n : Str) : Bool := decide (n ∈ nearL g ps) && (!decide (n ∈ quietL g ps) && !decide (n ∈ kindsL ps))
def openFrom (g : Pg) (ps : List (Str × Int)) : List Str → Nat → Option Nat
  | [], _ => none
  | n :: r, i => if openB g ps n then some i else openFrom g ps r (i + 1)
def openI (g : Pg) (ps : List (Str × Int)) : Option Nat := openFrom g ps (g.es.map (·.name)) 0
def optV : Option Nat → V
  | none => .non
  | some i => .int (i : Nat)
theorem idx_ok {g : Pg} (G : GW g) {n : Str} (h : (rowOf g n).isSome = true) : (g.es.map (·.name))[(g.es.map (·.name)).idxOf n]? = some n ∧ (∀ m, m < (g.es.map (·.name)).idxOf n → (g.es.map (·.name))[m]? ≠ some n) ∧ (g.es.map (·.name)).idxOf n < g.es.length := by
  have hm := mem_rows.mpr h
  have lt := List.idxOf_lt_length_iff.mpr hm
  have e : (g.es.map (·.name))[(g.es.map (·.name)).idxOf n]? = some n := by
    rw [List.getElem?_eq_getElem lt, List.getElem_idxOf lt]
  refine ⟨e, fun m hm' z => ?_, by rw [List.length_map] at lt; exact lt⟩
  obtain ⟨l1, e1⟩ := List.getElem?_eq_some_iff.mp z
  have e2 := List.getElem_idxOf lt
  exact (List.pairwise_iff_getElem.mp (show (g.es.map (·.name)).Pairwise (· ≠ ·) from G.nd)) m _ l1 lt hm' (e1.trans e2.symm)
def spOp (K : PySem.W.Frag) : Sp := fun vs H Q _ => ∃ (w : V) (q : Addr) (g : Pg) (xs : List V) (ps : List (Str × Int)), vs = [w, .ref q] ∧ PgAt K H w g ∧ GW g ∧ SqT K H q xs ∧ DpAll K H xs (ps.map dPr) ∧ ps.length ≤ 12 ∧ (∀ s ∈ ps, okP g s) ∧ ∀ H', Same H H' → Q (optV (openI g ps)) H'
theorem in_txt {K : PySem.W.Frag} {neg : Bool} {x : Str} {p : Addr} {xs : List Str} {H : Hp} {Q : VK} (hT : SqT K H p (xs.map V.str)) (k : Q (.bl (if neg then !decide (x ∈ xs) else decide (x ∈ xs))) H) : rIn K neg (.str x) (.ref p) H Q := by
  refine ⟨p, _, rfl, .inr hT, rfl, flat_strs _, ?_⟩
  rw [inV_strs]
  exact k
theorem opt_none (o : Option Nat) : decide (optV o = V.non) = o.isNone := by
  cases o with
  | none => exact decide_eq_true rfl
  | some i => exact decide_eq_false (fun z => by cases z)
theorem dec_int (a b : Int) : decide (V.int a = V.int b) = decide (a = b) := by
  by_cases z : a = b
  · rw [decide_eq_true z, decide_eq_true (congrArg V.int z)]
  · rw [decide_eq_false z, decide_eq_false (fun y => z (V.int.inj y))]
section
variable {P : Program} {w : World} {K : PySem.W.Frag} {mg : Str → Option Value} {base : Heap}
theorem ok_op {f f1 f2 f3 f4 : Addr} {fd d1 d2 d3 d4 : FuncData} (F : Fun K "open_kind" "open_kind" (topS 34) f fd)
    (Ne : Def K mg "near_in" 32 ["web", "plan"] f1 d1) (ONe : FnOk P w K mg base CX0 4 f1 d1 ["web", "plan"] (spIn K outN))
    (Qu : Def K mg "quiet_in" 33 ["web", "plan"] f2 d2) (OQu : FnOk P w K mg base CX0 4 f2 d2 ["web", "plan"] (spIn K outQ))
    (Ki : Def K mg "kinds_in" 31 ["plan"] f3 d3) (OKi : FnOk P w K mg base CX0 2 f3 d3 ["plan"] (spKi K))
    (N : Def K mg "names_of" 15 ["web"] f4 d4) (ON : FnOk P w K mg base CX0 1 f4 d4 ["web"] (spNo K)) (me : mg "enumerate" = none) : FnOk P w K mg base CX0 5 f fd ["web", "plan"] (spOp K) := by
  refine F.ok scOk (fun vs H Q E h => ?_) (fun cdv A outer s H vs Q E hr h => ?_)
  · obtain ⟨w0, q0, g, xs, ps, rfl, _⟩ := h
    rfl
  · obtain ⟨w0, q0, g, xs, ps, rfl, pg, gw, hT, hd, few, okp, q⟩ := h
    have fe := gw.few
    refine ⟨_, (pss_cons (ps_par3 (i := 2) (j := 3) (l := 4) (by rfl) scOk.nd rfl rfl rfl (by decide) (by decide) (by decide) rfl rfl rfl (pa_cons (pe_call ONe hr (by rfl) Ne.m Ne.F.kp Ne.b .nil pass0 (pa_cons (pv 0) (pa_cons (pv 1) pa_nil))) (pa_cons (pe_call OQu hr (by rfl) Qu.m Qu.F.kp Qu.b .nil pass0 (pa_cons (pv 0) (pa_cons (pv 1) pa_nil))) (pa_cons (pe_call OKi (hr.mono (by decide)) (by rfl) Ki.m Ki.F.kp Ki.b .nil pass0 (pa_cons (pv 1) pa_nil)) pa_nil))) (by rfl))
      (pss_cons (ps_for PassesOwn.never rfl (En.pi_enT (by rfl) me (pa_cons (pe_call ON (hr.mono (by decide)) (by rfl) N.m N.F.kp N.b .nil pass0 (pa_cons (pv 0) pa_nil)) pa_nil)) (pg_tup (by rfl) (pgs_cons (pg_name (i := 5) scOk.nd rfl (.inl rfl)) (pgs_cons (pg_name (i := 6) scOk.nd rfl (.inl rfl)) pgs_nil))) (pss_one (ps_if (PW.pt (pw_and (pt_cmpR op_in_seq (pv 6) (pv 2) (by rfl)) (pw_and (pt_cmpR op_notIn_seq (pv 6) (pv 3) (by rfl)) (pw_and1 (pt_cmpR op_notIn_seq (pv 6) (pv 4) (by rfl)))))) (pss_one (ps_ret (pv 5))) pss_nil)))
      (pss_one (ps_ret pe_non)))), ?_⟩
    refine ⟨w0, rfl, .ref q0, rfl, ⟨w0, q0, g, xs, ps, rfl, pg, gw, hT, hd, few, okp, fun pn H1 s1 e1 => ?_⟩⟩
    refine ⟨w0, rfl, .ref q0, rfl, ⟨w0, q0, g, xs, ps, rfl, pg.same s1, gw, tupS s1 hT, dsKeep s1 hd, few, okp, fun pq H2 s2 e2 => ?_⟩⟩
    have s12 := s1.trans s2
    refine ⟨.ref q0, rfl, q0, xs, ps, rfl, tupS s12 hT, dsKeep s12 hd, few, fun pk H4 s3 f3 => ⟨.ref pn, .ref pq, .ref pk, rfl, ?_⟩⟩
    have f1 := s3 _ _ (s2 _ _ e1)
    have f2 := s3 _ _ e2
    have s14 := s12.trans s3
    refine ⟨w0, rfl, w0, g, rfl, pg.same s14, by omega, fun pm H5 s5 e5 => ?_⟩
    have s15 := s14.trans s5
    have g1 := s5 _ _ f1
    have g2 := s5 _ _ f2
    have g3 := s5 _ _ f3
    refine ⟨pm, _, rfl, .inl (.inl e5), ?_⟩
    refine for_it En.walk_enT (fun i σ G => ∃ (y5 y6 : Option V), σ = [some w0, some (.ref q0), some (.ref pn), some (.ref pq), some (.ref pk), y5, y6] ∧ Same H5 G ∧ openFrom g ps ((g.es.map (·.name)).drop i) i = openI g ps) ⟨_, _, rfl, Same.refl _, rfl⟩ (fun i σ G _ ⟨_, _, _, z, _⟩ => .inl (.inl (z _ _ e5))) ?_ ?_
    · rintro i x σ G G' hi ⟨y5, y6, rfl, sG, op⟩ ⟨T0, k, u, rfl, nT, rfl, hk', hv⟩
      obtain rfl : V.int (i : Nat) = k := Option.some.inj hk'
      obtain ⟨n, hn, rfl⟩ := map_get hv
      have sN := putS (o := .tup [V.int (i : Nat), .str n]) sG (sG.free nT)
      refine ⟨T0, _, rfl, .inl (.inl upd_same), rfl, _, _, rfl, _, _, rfl, rfl, ?_⟩
      generalize upd G T0 (.tup [V.int (i : Nat), .str n]) = G1 at sN ⊢
      obtain ⟨li, ei⟩ := List.getElem?_eq_some_iff.mp hn
      have dr : (g.es.map (·.name)).drop i = n :: (g.es.map (·.name)).drop (i + 1) := by
        rw [List.drop_eq_getElem_cons li, ei]
      rw [dr] at op
      have op : (if openB g ps n then some i else openFrom g ps ((g.es.map (·.name)).drop (i + 1)) (i + 1)) = openI g ps := op
      have sA := s15.trans sN
      have sN5 := sN
      dsimp only [gName]
      have t1 : SqT K G1 pn ((nearL g ps).map V.str) := .inl (.inl (sN5 _ _ g1))
      have t2 : SqT K G1 pq ((quietL g ps).map V.str) := .inl (.inl (sN5 _ _ g2))
      have t3 : SqT K G1 pk ((kindsL ps).map V.str) := .inl (.inl (sN5 _ _ g3))
      have eo : openB g ps n = (decide (n ∈ nearL g ps) && (!decide (n ∈ quietL g ps) && !decide (n ∈ kindsL ps))) := rfl
      rw [eo] at op
      have next : (false = true ∨ openFrom g ps ((g.es.map (·.name)).drop (i + 1)) (i + 1) = openI g ps) → ∃ y5 y6, [some w0, some (V.ref q0), some (.ref pn), some (.ref pq), some (.ref pk), some (.int (i : Nat)), some (.str n)] = [some w0, some (V.ref q0), some (.ref pn), some (.ref pq), some (.ref pk), y5, y6] ∧ Same H5 G1 ∧ openFrom g ps ((g.es.map (·.name)).drop (i + 1)) (i + 1) = openI g ps := fun z => ⟨_, _, rfl, sN, z.resolve_left (fun y => by cases y)⟩
      refine ⟨.str n, rfl, .ref pn, rfl, in_txt t1 ⟨_, rfl, ?_⟩⟩
      cases z1 : decide (n ∈ nearL g ps)
      · rw [z1] at op
        exact iteF (next (.inr op))
      refine iteT ⟨.str n, rfl, .ref pq, rfl, in_txt t2 ⟨_, rfl, ?_⟩⟩
      cases z2 : decide (n ∈ quietL g ps)
      rotate_left
      · rw [z1, z2] at op
        exact iteF (next (.inr op))
      refine iteT ⟨.str n, rfl, .ref pk, rfl, in_txt t3 ⟨_, rfl, ?_⟩⟩
      cases z3 : decide (n ∈ kindsL ps)
      rotate_left
      · rw [z1, z2, z3] at op
        exact iteF (next (.inr op))
      rw [z1, z2, z3] at op
      have op : some i = openI g ps := op
      rw [← op] at q
      exact iteT ⟨_, rfl, q _ sA⟩
    · rintro σ G ⟨y5, y6, rfl, sG, op⟩
      rw [List.length_map, List.length_map, ← List.length_map (f := (·.name)) (as := g.es), List.drop_length] at op
      have op : none = openI g ps := op
      rw [← op] at q
      exact q _ (s15.trans sG)
end
end Kn


namespace Kn
open PySem PySem.Spec PyProof.Rows L2
/-! ### t[::-1] of a tuple -/
section
variable {prog : Program} {w : World} {A : Around} {E : Value → Shared → Prop} {s : Shared}
theorem places_back (n : Nat) : Builtin.Slice.sliceAdjust none none (-1) (n : Int) = ((n : Int) - 1, -1) := by
  unfold Builtin.Slice.sliceAdjust
  rfl
theorem count_back (n : Nat) : Builtin.Slice.slicePlaces ((n : Int) - 1) (-1) (-1) = n := by
  unfold Builtin.Slice.slicePlaces
  simp
  omega
theorem fm_congr {α β : Type} {f g : α → Option β} : ∀ {l : List α}, (∀ x ∈ l, f x = g x) → l.filterMap f = l.filterMap g
  | [], _ => rfl
  | x :: r, h => by
    rw [List.filterMap_cons, List.filterMap_cons, h x (List.mem_cons_self ..), fm_congr (l := r) fun y hy => h y (List.mem_cons_of_mem _ hy)]
theorem pick_back (xs : Array Value) : ((List.range xs.size).filterMap fun (k : Nat) => xs[((xs.size : Int) - 1 + (k : Int) * -1).toNat]?).toArray = xs.toList.reverse.toArray := by
  have e : (List.range xs.size).filterMap (fun (k : Nat) => xs[((xs.size : Int) - 1 + (k : Int) * -1).toNat]?) = xs.toList.reverse := by
    have h : ∀ k ∈ List.range xs.size, xs[((xs.size : Int) - 1 + (k : Int) * -1).toNat]? = xs.toList.reverse[k]? := by
      intro k hk
      have hk := List.mem_range.mp hk
      have hl : k < xs.toList.length := by rw [Array.length_toList]; exact hk
      rw [List.getElem?_reverse hl, Array.getElem?_toList, Array.length_toList]
      congr 1
      omega
    rw [fm_congr h]
    have n : xs.size = xs.toList.reverse.length := by rw [List.length_reverse, Array.length_toList]
    rw [n]
    generalize xs.toList.reverse = ys
    induction ys with
    | nil => rfl
    | cons y r ih =>
      rw [List.length_cons, List.range_succ_eq_map, List.filterMap_cons, List.filterMap_map]
      show y :: List.filterMap (fun k => r[k]?) (List.range r.length) = y :: r
      rw [ih]
  rw [e]
theorem cut_back {sl : Addr} {vl vu vs : Value} {n : Nat} {R : Int × Int × Nat → Shared → Prop} (hs : s.heap.IsSliceOf sl vl vu vs) (pl : IsPart vl none) (pu : IsPart vu none) (ps : IsPart vs (some (-1)))
    (r : R ((n : Int) - 1, -1, n) s) : wpAny (model prog w) A (Builtin.Slice.sliceApplied (.ref sl) (pure (n : Int))) R E s := by
  obtain ⟨o, ho, _, hd⟩ := id hs
  unfold Builtin.Slice.sliceApplied Builtin.Slice.sliceFields
  refine wpAny_bind (wpAny_bind (wpAny_field ho hd (x := vl) rfl (wpAny_bind (wpAny_field ho hd (x := vu) rfl (wpAny_bind (wpAny_field ho hd (x := vs) rfl (wpAny_pure ?_)))))))
  refine wpAny_bind (HT.slicePart_ ps ?_)
  show wpAny _ _ (if ((-1 : Int) == 0) = true then _ else _) _ _ s
  rw [if_neg (by decide)]
  refine wpAny_bind (HT.slicePart_ pl (wpAny_bind (HT.slicePart_ pu (wpAny_bind (wpAny_pure ?_)))))
  show wpAny _ _ (pure (((n : Int) - 1, (-1 : Int), Builtin.Slice.slicePlaces ((n : Int) - 1) (-1) (-1)))) _ _ s
  rw [count_back]
  exact wpAny_pure r
theorem get_back {t sl : Addr} {its : Array Value} {vl vu vs : Value} {Q : Value → Shared → Prop} (ht : IsTup s.heap t its) (hs : s.heap.IsSliceOf sl vl vu vs) (pl : IsPart vl none) (pu : IsPart vu none) (ps : IsPart vs (some (-1)))
    (q : Q (.ref s.heap.objs.size) { s with heap := s.heap.push { cls := .type "tuple", data := .seq its.toList.reverse.toArray } }) (room : its.size ≤ sizeLine) : wpAny (model prog w) A (getItem (.ref t) (.ref sl)) Q E s := by
  have isSl : s.TypeIs (.ref sl) "slice" := let ⟨os, a, b, _⟩ := hs; ⟨os, a, b⟩
  have fits : sizeOk (.seq its.toList.reverse.toArray) := by
    show its.toList.reverse.toArray.size ≤ sizeLine
    rw [List.size_toArray, List.length_reverse, Array.length_toList]
    exact room
  unfold getItem
  refine wpAny_holding ?_
  refine wpAny_bind (wpAny_sequenceKey ht.typeIs (by decide) ?_)
  refine wpAny_bind (wpAny_callSpecial?_slot ht.typeIs PyProof.Rows.slot_tuple_getitem (wpAny_call_entry PyProof.Rows.slot_tuple_getitem ht.typeIs PyProof.Rows.entry_tuple_getitem ?_ (PyProof.Rows.args_tuple_getitem _ _)))
  show wpAny _ _ (Builtin.Tuple.tupleItemsOf (.ref t) >>= _) _ _ s
  refine wpAny_bind (tupleItemsOf_ ht (wpAny_bind (wpAny_typeOf isSl ?_)))
  rw [if_pos (by decide)]
  refine wpAny_bind (cut_back hs pl pu ps ?_)
  have no : ¬ (((its.size : Int) - 1 == 0 && (-1 : Int) == 1 && its.size == its.size) = true) := by
    rw [show ((-1 : Int) == 1) = false from rfl, Bool.and_false, Bool.false_and]
    exact Bool.false_ne_true
  show wpAny _ _ (if ((its.size : Int) - 1 == 0 && (-1 : Int) == 1 && its.size == its.size) = true then _ else _) _ _ s
  rw [if_neg no, pick_back]
  exact wpAny_bind (m := Builtin.Tuple.tupleExact _) (wpAny_newObj_type (wpAny_pure ⟨_, rfl, wpAny_pure q⟩) fits)
end

section
variable {X : Cx} {e : Expr} {te : TE} {k : Nat} {p1 p2 p3 pos : Pos}
def tRevT (K : PySem.W.Frag) (te : TE) : TE := fun σ H Q => te σ H fun x G => ∃ a xs, x = .ref a ∧ SqT K G a xs ∧ ∀ p, G p = none → Q (.ref p) (upd G p (.tup xs.reverse))
theorem pe_revT (he : PE X e te) : PE X (.Subscript e (.Slice none none (some (.UnaryOp .USub (.Constant (.int 1) k p1) p2)) p3) pos) (tRevT X.K te) := by
  refine ⟨fun pins s σ H Q I told => Subscript_ (thn (he.run pins s σ H _ I told) ?_)⟩
  rintro v s1 ⟨x, H1, I1, rx, a, xs, rfl, hT, q⟩
  obtain rfl : v = Value.ref a := rx
  have back : PO X (some (.UnaryOp .USub (.Constant (.int 1) k p1) p2)) (tPart (tUn (rU fun i => .int (-i)) (tC (.int 1)))) := po_some (pe_un un_neg pe_int)
  refine wpAny_Slice (thn (po_none.run pins s1 σ H1 (fun o G => o = none ∧ G = H1) I1 ⟨rfl, rfl⟩) ?_)
  rintro vl s2 ⟨l, H2, I2, pl, rfl, rfl⟩
  refine thn (po_none.run pins s2 σ H2 (fun o G => o = none ∧ G = H2) I2 ⟨rfl, rfl⟩) ?_
  rintro vu s3 ⟨u, H3, I3, pu, rfl, rfl⟩
  refine thn (back.run pins s3 σ H3 (fun o G => o = some (-1) ∧ G = H3) I3 ⟨1, rfl, -1, rfl, rfl, rfl⟩) ?_
  rintro vs s4 ⟨o, H4, I4, ps, rfl, rfl⟩
  have I5 : Inv X pins σ H4 { s4 with heap := s4.heap.push { cls := .type "slice", data := .fields #[vl, vu, vs] } } := I4.kept (t' := s4.toks) (fun _ _ y => Heap.get?_push_of_some _ y)
  obtain ⟨its, rv, isT, room⟩ := I5.tuple hT
  have many := rv.length
  show wpAny _ _ (subscriptTail e _ (.ref a) (.ref s4.heap.objs.size)) _ _ { s4 with heap := s4.heap.push { cls := .type "slice", data := .fields #[vl, vu, vs] } }
  refine tail_any (ops := [.ref a, .ref s4.heap.objs.size]) isT.typeIs PyProof.Rows.slot_tuple_getitem.lookup ?_ (by with_unfolding_all rfl)
  refine get_back isT (Heap.IsSliceOf.new _ vl vu vs) pl pu ps ?_ (by rw [List.size_toArray]; omega)
  refine ⟨.ref _, _, I5.laid (t' := s4.toks) (o := .tup xs.reverse) (fun _ _ y => Heap.get?_push_of_some _ y) (Nat.le_refl _) ?_, rfl, q _ (I5.hok.fresh (Nat.le_refl _))⟩
  exact ⟨by rw [List.length_reverse]; exact room, its.reverse, rv.reverse, IsTup.new _ _⟩
end

end Kn


namespace Kn
open PySem PySem.Spec PyProof.Rows L2
abbrev nCw : List Str := ["web", "marks", "pairs", "plans", "falling", "mark", "kind", "pair", "leaders", "plan", "other", "name", "left"]
theorem scCw : FnScope nCw ["web", "marks", "pairs"] (defScope (topS 35)) := ⟨rfl, rfl, rfl, by decide +kernel, rfl, by decide +kernel, by decide +kernel⟩
abbrev nCq : List Str := ["web", "marks"]
theorem scCq : FnScope nCq ["web", "marks"] (defScope (topS 38)) := ⟨rfl, rfl, rfl, by decide +kernel, rfl, by decide +kernel, by decide +kernel⟩
theorem cr_anyK {X : Cx} {K : PySem.W.Frag} (e : X.K = K) (hc : X.calm = true) : CallR X (.builtin "any") (rAny K) := by
  subst e
  exact cr_any hc
theorem pa_starK {X : Cx} {K : PySem.W.Frag} {e : Expr} {es : List Expr} {te : TE} {t : TA} {p : Pos} (ek : X.K = K) (he : PE X e te) (hr : PA X es t) (hs : starEach (.Starred e p :: es) X.env = (true, eval e X.env) :: starEach es X.env := by rfl) : PA X (.Starred e p :: es) (StX.tStar K te t) := by
  subst ek
  exact StX.pa_star he hr hs
/-- plans in the order of pairs, one by one -/
inductive AscsOf : List (List (Str × Int)) → List (List (Str × Int)) → Prop
  | nil : AscsOf [] []
  | cons {y c ys cs} : (Asc c ∧ ∀ s, s ∈ c ↔ s ∈ y) → AscsOf ys cs → AscsOf (y :: ys) (c :: cs)
theorem AscsOf.snoc {y c : List (Str × Int)} {ys cs : List (List (Str × Int))} : AscsOf ys cs → (Asc c ∧ ∀ s, s ∈ c ↔ s ∈ y) → AscsOf (ys ++ [y]) (cs ++ [c])
  | .nil, h => .cons h .nil
  | .cons a b, h => .cons a (b.snoc h)
theorem AscsOf.len {ys cs : List (List (Str × Int))} : AscsOf ys cs → cs.length = ys.length
  | .nil => rfl
  | .cons _ b => by rw [List.length_cons, List.length_cons, b.len]
theorem AscsOf.left {ys cs : List (List (Str × Int))} : AscsOf ys cs → ∀ c ∈ cs, ∃ y ∈ ys, Asc c ∧ ∀ s, s ∈ c ↔ s ∈ y
  | .cons (y := y) (c := c) a b, x, hx => by
    rcases List.mem_cons.mp hx with rfl | hx
    · exact ⟨y, List.mem_cons_self .., a⟩
    · obtain ⟨z, hz, e⟩ := b.left x hx
      exact ⟨z, List.mem_cons_of_mem _ hz, e⟩
theorem AscsOf.right {ys cs : List (List (Str × Int))} : AscsOf ys cs → ∀ y ∈ ys, ∃ c ∈ cs, Asc c ∧ ∀ s, s ∈ c ↔ s ∈ y
  | .cons (y := y) (c := c) a b, x, hx => by
    rcases List.mem_cons.mp hx with rfl | hx
    · exact ⟨c, List.mem_cons_self .., a⟩
    · obtain ⟨z, hz, e⟩ := b.right x hx
      exact ⟨z, List.mem_cons_of_mem _ hz, e⟩
theorem dataLt_rv {s t : Str × Int} (h : PySem.W.dataLt (dRv t) (dRv s) = false) : s.2 ≤ t.2 := by
  rw [PySem.W.dataLt_pair (x := .int t.2) (x' := .int s.2) rfl rfl] at h
  by_cases e : t.2 = s.2
  · omega
  · have ev : ¬ PyData.eqv (.int t.2) (.int s.2) = true := by
      intro z
      have z : (t.2 == s.2) = true := z
      exact e (eq_of_beq z)
    rw [if_neg ev, PySem.W.dataLt_int] at h
    have := of_decide_eq_false h
    omega
theorem rv_seq {K : PySem.W.Frag} {H : Hp} {v : V} {s : Str × Int} (h : Dp K H v (dRv s)) : ∃ p, v = .ref p ∧ SqT K H p [.int s.2, .str s.1] := by
  obtain ⟨p, xs, rfl, hT, hds, _⟩ := tupD h
  cases hds with
  | cons a b =>
    cases b with
    | cons b c =>
      cases c
      cases a
      cases b
      exact ⟨p, rfl, hT⟩
theorem dp_rvs {K : PySem.W.Frag} {H H' : Hp} (t : TS H H') : ∀ {vs : List V} {ps : List (Str × Int)}, DpAll K H vs (ps.map dRv) → DpAll K H' vs (ps.map dRv)
  | _, [], .nil => .nil
  | _, s :: r, .cons a b => by
    obtain ⟨p, rfl, h⟩ := rv_seq a
    exact .cons (.tup (tupT t h) (.cons (.int _) (.cons (.str _) .nil))) (dp_rvs t b)
theorem dp_rv1 {K : PySem.W.Frag} {H H' : Hp} (t : TS H H') {v : V} {s : Str × Int} (h : Dp K H v (dRv s)) : Dp K H' v (dRv s) := by
  obtain ⟨p, rfl, k⟩ := rv_seq h
  exact .tup (tupT t k) (.cons (.int _) (.cons (.str _) .nil))
theorem lv_one {g : Pg} {o : Str × Int} : lv g [o] = lvOf g o := by
  show lvOf g o ++ [] = lvOf g o
  rw [List.append_nil]
theorem plansC_snoc {g : Pg} {fs : List (Str × Int)} {t : Str × Int} : ∀ {l : List (Str × Int)} {ps : List (List (Str × Int))}, plansC g fs (l ++ [t]) ps = stepC g fs t (plansC g fs l ps)
  | [], ps => rfl
  | a :: l, ps => plansC_snoc (l := l) (ps := stepC g fs a ps)
/-- what is known of the plans that are made -/
structure PlsOk (g : Pg) (i : Nat) (ps : List (List (Str × Int))) : Prop where
  many : ps.length ≤ 2 ^ i
  len : ∀ y ∈ ps, y.length ≤ i + 1
  ok : ∀ y ∈ ps, ∀ s ∈ y, okP g s
theorem PlsOk.first {g : Pg} {p : Int} {fs : List (Str × Int)} (ok : ∀ s ∈ fs, okP g s) (ask : canB g g.asks p = true → (g.asks, p) ∈ fs) : PlsOk g 0 [firstF g p] := by
  refine ⟨Nat.le_refl _, fun y hy => ?_, fun y hy s hs => ?_⟩
  · rw [List.mem_singleton.mp hy]
    unfold firstF
    split
    · exact Nat.le_refl 1
    · exact Nat.zero_le _
  · rw [List.mem_singleton.mp hy] at hs
    unfold firstF at hs
    split at hs
    · next c => rw [List.mem_singleton.mp hs]; exact ok _ (ask c)
    · cases hs
theorem PlsOk.step {g : Pg} {fs : List (Str × Int)} {t : Str × Int} {i : Nat} {ps : List (List (Str × Int))} (h : PlsOk g i ps) (ht : okP g t) : PlsOk g (i + 1) (stepC g fs t ps) := by
  have inn : ∀ z ∈ stepC g fs t ps, z ∈ ps ∨ ∃ y ∈ ps, z = y ++ [t] := fun z hz => by
    rcases List.mem_append.mp hz with hz | hz
    · exact .inl hz
    · obtain ⟨y, hy, rfl⟩ := List.mem_map.mp hz
      exact .inr ⟨y, (List.mem_filter.mp hy).1, rfl⟩
  refine ⟨?_, fun z hz => ?_, fun z hz s hs => ?_⟩
  · have := stepC_len (g := g) (fs := fs) (t := t) (ps := ps)
    have := h.many
    rw [Nat.pow_succ]
    omega
  · rcases inn z hz with hz | ⟨y, hy, rfl⟩
    · have := h.len z hz
      omega
    · have := h.len y hy
      rw [List.length_append]
      show y.length + 1 ≤ _
      omega
  · rcases inn z hz with hz | ⟨y, hy, rfl⟩
    · exact h.ok z hz s hs
    · rcases List.mem_append.mp hs with hs | hs
      · exact h.ok y hy s hs
      · rw [List.mem_singleton.mp hs]
        exact ht
/-- the pairs with great marks first -/
def FallOf (fs r : List (Str × Int)) : Prop := r.Nodup ∧ (∀ s, s ∈ r ↔ s ∈ fs) ∧ r.Pairwise fun s t => t.2 ≤ s.2
/-- what closed_within makes of some pairs -/
def closedC (g : Pg) (p : Int) (fs r : List (Str × Int)) : List (List (Str × Int)) := (plansC g fs r [firstF g p]).filter fun y => (openI g y).isNone
def spCw (K : PySem.W.Frag) : Sp := fun vs H Q _ => ∃ (w : V) (q0 : Addr) (g : Pg) (p : Int) (ys : List V) (fs : List (Str × Int)), vs = [w, .int p, .ref q0] ∧ PgAt K H w g ∧ GW g ∧ H q0 = some (.tup ys) ∧ PrsAt H ys fs ∧ fs.length ≤ 10 ∧ (∀ s ∈ fs, okP g s) ∧ (canB g g.asks p = true → (g.asks, p) ∈ fs) ∧
  ∀ (l : Addr) (zs : List V) (r : List (Str × Int)) (cs : List (List (Str × Int))) (H' : Hp), Same H H' → H' l = some (.lst zs) → TupsAt K H' zs cs → FallOf fs r → AscsOf (closedC g p fs r) cs → Q (.ref l) H'
section
variable {P : Program} {w : World} {K : PySem.W.Frag} {mg : Str → Option Value} {base : Heap}
theorem ok_cw {f fE fA fL fO : Addr} {fd fdE fdA fdL fdO : FuncData} (F : Fun K "closed_within" "closed_within" (topS 35) f fd)
    (Le : Def K mg "least_plan" 25 ["web", "marks"] fE fdE) (OE : FnOk P w K mg base CX0 3 fE fdE ["web", "marks"] (spLe K))
    (As : Def K mg "ascending" 8 ["things"] fA fdA) (OA : FnOk P w K mg base CX0 1 fA fdA ["things"] (spAsG K dRv)) (OT : FnOk P w K mg base CX0 1 fA fdA ["things"] (spAsT K))
    (Lv : Def K mg "leavings" 24 ["web", "pairs"] fL fdL) (OL : FnOk P w K mg base CX0 3 fL fdL ["web", "pairs"] (spLvL K))
    (Op : Def K mg "open_kind" 34 ["web", "plan"] fO fdO) (OO : FnOk P w K mg base CX0 5 fO fdO ["web", "plan"] (spOp K)) (my : mg "any" = none) :
    FnOk P w K mg base CX0 6 f fd ["web", "marks", "pairs"] (spCw K) := by
  refine F.ok scCw (fun vs H Q E h => ?_) (fun cdv A outer s H vs Q E hr h => ?_)
  · obtain ⟨w0, q0, g, p, ys, fs, rfl, _⟩ := h
    rfl
  · obtain ⟨w0, q0, g, p, ys, fs, rfl, pg, gw, h0, hy, few, ok, ask, q⟩ := h
    have ly : ys.length = fs.length := hy.len
    obtain ⟨cs, c1, c2, hcs⟩ := prs_zip hy
    refine ⟨_, (pss_cons (ps_set (i := 3) scCw.nd rfl (.inl rfl) (pe_lst (pa_cons (pe_call OE (hr.mono (by decide)) (by rfl) Le.m Le.F.kp Le.b .nil pass0 (pa_cons (pv 0) (pa_cons (pv 1) pa_nil))) pa_nil)))
      (pss_cons (ps_set (i := 4) scCw.nd rfl (.inl rfl) (pe_revT (pe_call OA (hr.mono (by decide)) (by rfl) As.m As.F.kp As.b .nil pass0 (pa_cons (pe_lc (own := [("name", 11), ("left", 12)]) (g := gTup K 2 (gCons (gName 11) (gCons (gName 12) gNil))) (by rfl) scCw.nd (pi_tup (pv 2)) (blkOk_by (own := [("name", 11), ("left", 12)]) (N := nCw) (sc := defScope (topS 35)) (by decide +kernel)) (fun _ _ _ _ _ => (pg_tup (by rfl) (pgs_cons (pg_name (i := 11) scCw.nd rfl (Or.inl rfl)) (pgs_cons (pg_name (i := 12) scCw.nd rfl (Or.inl rfl)) pgs_nil)))) (fun _ _ _ _ _ => pts_nil) (fun _ _ _ _ _ => (pe_tup (pa_cons (pv 12) (pa_cons (pv 11) pa_nil))))) pa_nil))))
      (pss_cons (ps_for PassesOwn.never rfl (pi_tup (pv 4)) (pg_tup (by rfl) (pgs_cons (pg_name (i := 5) scCw.nd rfl (.inl rfl)) (pgs_cons (pg_name (i := 6) scCw.nd rfl (.inl rfl)) pgs_nil))) (pss_cons (ps_set (i := 7) scCw.nd rfl (.inr rfl) (pe_tup (pa_cons (pv 6) (pa_cons (pv 5) pa_nil))))
      (pss_cons (ps_set (i := 8) scCw.nd rfl (.inr rfl) (pe_lc (own := [("other", 10)]) (g := gName 10) (by rfl) scCw.nd (pi_tup (pv 2)) (blkOk_by (own := [("other", 10)]) (N := nCw) (sc := defScope (topS 35)) (by decide +kernel)) (fun _ _ _ _ _ => (pg_name (i := 10) scCw.nd rfl (Or.inl rfl))) (fun _ _ _ _ _ => (pts_one (pt_cmpR (r := rHasL K false) (op_inLD hr.units) (pv 7) (pe_call OL (hr.mono (by decide)) (by rfl) Lv.m Lv.F.kp Lv.b .nil pass0 (pa_cons (pv 0) (pa_cons (pe_lst (pa_cons (pv 10) pa_nil)) pa_nil))) (by rfl)))) (fun _ _ _ _ _ => (pv 10))))
      (pss_one (ps_set (i := 3) scCw.nd rfl (.inl rfl) (pe_op op_cat (pv 3) (pe_lc (own := [("plan", 9)]) (g := gName 9) (by rfl) scCw.nd (pi_list (pv 3)) (blkOk_by (own := [("plan", 9)]) (N := nCw) (sc := defScope (topS 35)) (by decide +kernel)) (fun _ _ _ _ _ => (pg_name (i := 9) scCw.nd rfl (Or.inr rfl))) (fun _ _ _ _ _ => (pts_one (pt_val (pe_callB (cr_anyK (K := K) rfl (by rfl)) (by rfl) my (by decide +kernel) (pa_cons (pe_lc (wi := iList K (tVar 8)) (own := [("other", 10)]) (g := gName 10) (by rfl) scCw.nd (pi_list (pv 8)) (blkOk_by (own := [("other", 10)]) (N := nCw) (by rfl)) (fun _ _ _ _ _ => (pg_name (i := 10) scCw.nd rfl (Or.inl rfl))) (fun _ _ _ _ _ => pts_nil) (fun _ _ _ _ _ => (pe_cmpR (r := rHasD K false) (op_inTD hr.units) (pv 10) (pv 9) (by rfl)))) pa_nil))))) (fun _ _ _ _ _ => (pe_tup (pa_starK (K := K) rfl (pv 9) (pa_cons (pv 7) pa_nil)))))))))))
      (pss_one (ps_ret (pe_lc (own := [("plan", 9)]) (g := gName 9) (by rfl) scCw.nd (pi_list (pv 3)) (blkOk_by (own := [("plan", 9)]) (N := nCw) (sc := defScope (topS 35)) (by decide +kernel)) (fun _ _ _ _ _ => (pg_name (i := 9) scCw.nd rfl (Or.inl rfl))) (fun _ _ _ _ _ => (pts_one (pt_cmpR op_isN (pe_call OO hr (by rfl) Op.m Op.F.kp Op.b .nil pass0 (pa_cons (pv 0) (pa_cons (pv 9) pa_nil))) pe_non (nomark _)))) (fun _ _ _ _ _ => (pe_call OT (hr.mono (by decide)) (by rfl) As.m As.F.kp As.b .nil pass0 (pa_cons (pv 9) pa_nil))))))))), ?_⟩
    refine asg_seq ⟨w0, rfl, .int p, rfl, w0, g, p, rfl, pg, gw, fun q1 y1 H1 s1 e1 h1 => ⟨(show 1 ≤ sizeLine by decide), fun L nL => ?_⟩⟩
    dsimp only [gName]
    have s2 := s1.trans (same_new (o := .lst [.ref q1]) nL)
    have hP0 : TupsAt K (upd H1 L (.lst [.ref q1])) [.ref q1] [firstF g p] := .cons (.tup (.inl (.inl ((same_new nL) _ _ e1))) (dsKeep (same_new nL) h1.dp)) .nil
    have eL : (upd H1 L (.lst [.ref q1])) L = some (.lst [.ref q1]) := upd_same
    generalize upd H1 L (.lst [.ref q1]) = H2 at s2 hP0 eL ⊢
    have nL0 : H1 L = none := nL
    refine asg_seq ⟨.ref q0, rfl, q0, rfl, ⟨_, tupS s2 (.inl (.inl h0))⟩, fun D nD => ?_⟩
    refine lc_it (walk_tup (K := K) (a := q0) (xs := ys)) (fun i G => Same H2 G ∧ ∃ acc, G D = some (.lst acc) ∧ acc.length = i ∧ DpAll K G acc ((fs.take i).map dRv)) ⟨same_new nD, [], upd_same, rfl, .nil⟩ (fun i G _ h => tupS (s2.trans h.1) (.inl (.inl h0))) ?_ ?_
    · rintro i x G0 G hi ⟨sG, acc, eD, la, hacc⟩ ⟨rfl, hx⟩
      obtain ⟨s0, hs0, px, rfl, hpx⟩ := hy.get hx
      have tk : (fs.take (i + 1)).map dRv = (fs.take i).map dRv ++ [dRv s0] := by rw [List.take_add_one, hs0, List.map_append]; rfl
      refine ⟨px, _, rfl, .inl (.inl ((s2.trans sG) _ _ hpx)), rfl, _, _, rfl, _, _, rfl, rfl, rfl, ?_⟩
      dsimp only [tYes]
      refine iteT ⟨.int s0.2, rfl, .str s0.1, rfl, (show 2 ≤ sizeLine by decide), fun t nt => ?_⟩
      have sT := same_new (o := .tup [.int s0.2, .str s0.1]) nt
      refine ⟨acc, sT _ _ eD, small' (by omega), putS (sG.trans sT) nD, acc ++ [.ref t], upd_same, by rw [List.length_append, la]; rfl, ?_⟩
      rw [tk]
      exact dsApp (dp_rvs (ts_lst (sT _ _ eD)) (dsKeep sT hacc)) (.cons (dp_rv1 (ts_lst (sT _ _ eD)) (.tup (.inl (.inl upd_same)) (.cons (.int _) (.cons (.str _) .nil)))) .nil)
    rintro G ⟨sG, acc, eD, la, hacc⟩
    rw [ly, List.take_length] at hacc
    refine ⟨D, acc, fs, rfl, .inl (.inl eD), hacc, by omega, fun qa zs rs H3 s3 e3 h3 od mem => ⟨qa, zs, rfl, .inl (.inl e3), fun tq nq => ?_⟩⟩
    have s4 := same_new (o := .tup zs.reverse) nq
    have e4 : (upd H3 tq (.tup zs.reverse)) tq = some (.tup zs.reverse) := upd_same
    have s24 := (sG.trans s3).trans s4
    have hRv : DpAll K (upd H3 tq (.tup zs.reverse)) zs.reverse (rs.reverse.map dRv) := by
      rw [List.map_reverse]
      exact dsRev (dsKeep s4 h3)
    have fall : FallOf fs rs.reverse := by
      refine ⟨List.pairwise_reverse.mpr (od.1.imp fun h e => h e.symm), fun s => by rw [List.mem_reverse]; exact mem s, ?_⟩
      rw [List.pairwise_reverse]
      exact od.2.imp fun {x y} h => dataLt_rv h
    have hP1 := dp_tups (ts_same s24) hP0
    have eL1 := s24 _ _ eL
    have sH := s2.trans s24
    have lz : zs.reverse.length = rs.reverse.length := by rw [dsLen hRv, List.length_map]
    generalize zs.reverse = zr at hRv e4 lz hP1 eL1 sH
    generalize rs.reverse = r at fall hRv lz
    have lr : r.length ≤ fs.length := nodup_sub fall.1 (ys := fs) fun s hs => (fall.2.1 s).mp hs
    have okr : ∀ s ∈ r, okP g s := fun s hs => ok s ((fall.2.1 s).mp hs)
    generalize upd H3 tq (.tup _) = H4 at hRv e4 hP1 eL1 sH
    clear s24 s4 e3 h3 od mem s3 hacc eD sG hP0 eL nL nL0
    dsimp only [gName, List.set]
    refine ⟨.ref tq, rfl, tq, rfl, ⟨_, .inl (.inl e4)⟩, ?_⟩
    refine for_it (walk_tup (K := K) (a := tq) (xs := zr)) (fun i σ G => ∃ (l : Addr) (y5 y6 y7 y8 : Option V) (vs : List V), σ = [some w0, some (.int p), some (.ref q0), some (.ref l), some (.ref tq), y5, y6, y7, y8, none, none, none, none] ∧ Same H4 G ∧ G l = some (.lst vs) ∧ TupsAt K G vs (plansC g fs (r.take i) [firstF g p]) ∧ PlsOk g i (plansC g fs (r.take i) [firstF g p]))
      ⟨L, _, _, _, _, _, rfl, Same.refl _, eL1, hP1, PlsOk.first ok ask⟩ (fun i σ G _ ⟨_, _, _, _, _, _, _, z, _⟩ => .inl (.inl (z _ _ e4))) ?_ ?_
    · rintro i x σ G0 G hi ⟨l, y5, y6, y7, y8, vs, rfl, sG, el, hP, PO⟩ ⟨rfl, hx⟩
      obtain ⟨d, hd, dp⟩ := dsAt hRv i x hx
      obtain ⟨t, ht, rfl⟩ := map_get hd
      obtain ⟨px, rfl, hpx⟩ := rv_seq dp
      have tk : r.take (i + 1) = r.take i ++ [t] := by rw [List.take_add_one, ht]; rfl
      rw [tk, plansC_snoc]
      have okt := okr t (List.mem_of_getElem? ht)
      generalize plansC g fs (r.take i) [firstF g p] = ps at hP PO ⊢
      refine ⟨px, _, rfl, tupS sG hpx, rfl, _, _, rfl, _, _, rfl, rfl, ?_⟩
      dsimp only [gName, List.set]
      refine asg_seq ⟨.str t.1, rfl, .int t.2, rfl, (show 2 ≤ sizeLine by decide), fun tp np => ?_⟩
      dsimp only [gName, List.set]
      have s5 := sG.trans (same_new (o := .tup [.str t.1, .int t.2]) np)
      have e5 : (upd G tp (.tup [.str t.1, .int t.2])) tp = some (.tup [.str t.1, .int t.2]) := upd_same
      have el5 := (same_new (o := .tup [.str t.1, .int t.2]) np) _ _ el
      have hP5 := dp_tups (ts_same (same_new (o := .tup [.str t.1, .int t.2]) np)) hP
      generalize upd G tp (.tup [.str t.1, .int t.2]) = G5 at s5 e5 el5 hP5 ⊢
      have s05 := sH.trans s5
      have few2 : ys.length ≤ 100000 := by omega
      refine asg_seq ⟨.ref q0, rfl, q0, rfl, ⟨_, tupS s05 (.inl (.inl h0))⟩, fun D nD => ?_⟩
      refine lc_sel (walk_tup (K := K) (a := q0) (xs := ys)) cs (fun c => if (decide (t ∈ lvOf g c.2)) = true then some c.1 else none) nD (by rw [← c1, List.length_map]) few2 (fun G' s => tupS (s05.trans s) (.inl (.inl h0))) ?_ ?_
      · intro j x c G' N Y hx hc sm no yes
        obtain rfl : c.1 = x := by
          rw [← c1, List.getElem?_map, hc] at hx
          exact Option.some.inj hx
        have cm := List.mem_of_getElem? hc
        have crs : c.2 ∈ fs := c2 ▸ List.mem_map.mpr ⟨c, cm, rfl⟩
        have okc := ok c.2 crs
        have s3 := s05.trans sm
        refine ⟨rfl, .ref tp, rfl, w0, rfl, c.1, rfl, (show 1 ≤ sizeLine by decide), fun L1 n1 => ⟨w0, L1, g, [c.1], [c.2], rfl, (pg.same s3).same (same_new n1), gw, .inl (.inl upd_same), .cons (((hcs c cm).ts (ts_same (s3.trans (same_new n1)))).dp) .nil, (show 1 ≤ 1000 by decide), fun s hs => by rw [List.mem_singleton.mp hs]; exact okc.1, fun l2 zs2 H7 s7 e7 h7 _ => ?_⟩⟩
        have s8 := (same_new (o := .lst [c.1]) n1).trans s7
        refine ⟨dPr t, (lv g [c.2]).map dPr, .tup (.inl (.inl (s8 _ _ (sm _ _ e5)))) (.cons (.str _) (.cons (.int _) .nil)), .lst (.inl (.inl e7)) h7.dp, good_shaped (okP_good gw okt) (show 1 ≤ 64 by decide), prs_lay fun s hs => okP_left gw okc (by rw [lv_one] at hs; exact hs), (show 1 ≤ 60 by decide), _, rfl, ?_⟩
        rw [any_pr, lv_one, Bool.bne_false]
        cases z : decide (t ∈ lvOf g c.2)
        · rw [z] at no
          exact iteF (no _ s8 rfl)
        · rw [z] at yes
          exact iteT ⟨c.1, rfl, yes c.1 _ s8 rfl⟩
      intro G6 s6 eD
      dsimp only [gName, List.set]
      rw [fm_if] at eD
      have s06 := s05.trans s6
      have el6 := s6 _ _ el5
      have hP6 := dp_tups (ts_same s6) hP5
      have e6 := s6 _ _ e5
      have hLd : ∀ c ∈ cs.filter (fun c => decide (t ∈ lvOf g c.2)), PrAt G6 c.1 c.2 := fun c hc => (hcs c (List.mem_filter.mp hc).1).ts (ts_same s06)
      have eLd : (cs.filter fun c => decide (t ∈ lvOf g c.2)).map (·.2) = leadersC g fs t := by
        unfold leadersC
        rw [← c2, List.filter_map]
        rfl
      have lLd : (cs.filter fun c => decide (t ∈ lvOf g c.2)).length ≤ 10 := by
        have := List.length_filter_le (fun c => decide (t ∈ lvOf g c.2)) cs
        have : cs.length = ys.length := by rw [← c1, List.length_map]
        omega
      have okL : ∀ c ∈ cs.filter (fun c => decide (t ∈ lvOf g c.2)), okP g c.2 := fun c hc => ok c.2 (c2 ▸ List.mem_map.mpr ⟨c, (List.mem_filter.mp hc).1, rfl⟩)
      generalize (cs.filter fun c => decide (t ∈ lvOf g c.2)) = ld at eD hLd eLd lLd okL
      have sG6 := s5.trans s6
      clear s5 s6 el5 hP5 e5
      have lv6 : vs.length = ps.length := by rw [dsLen hP6, List.length_map]
      have p10 : 2 ^ i ≤ 1024 := Nat.pow_le_pow_right (by decide) (show i ≤ 10 by omega)
      have many := PO.many
      refine ⟨.ref l, rfl, .ref l, rfl, l, rfl, ⟨_, .inl (.inl el6)⟩, fun B nB => ?_⟩
      refine lc_it (walk_list (K := K) (a := l) (xs := vs)) (fun j F => Same G6 F ∧ ∃ acc, F B = some (.lst acc) ∧ acc.length ≤ j ∧ TupsAt K F acc (((ps.take j).filter fun y => (leadersC g fs t).any fun o => decide (o ∈ y)).map fun y => y ++ [t])) ⟨same_new nB, [], upd_same, Nat.le_refl _, .nil⟩ (fun j F _ h => .inl (.inl (h.1 _ _ el6))) ?_ ?_
      · rintro j y G20 G2 hj ⟨sm, acc, eB, la, hacc⟩ ⟨rfl, hyj⟩
        obtain ⟨d1, hd1, dp1⟩ := dsAt hP6 j y hyj
        obtain ⟨part, hpart, rfl⟩ := map_get hd1
        obtain ⟨pp, zs2, rfl, hTp, hdp, lz2⟩ := tupD dp1
        have pm := List.mem_of_getElem? hpart
        have lpart := PO.len part pm
        have okpart := PO.ok part pm
        have lzs : zs2.length = part.length := by rw [lz2, List.length_map]
        have tk : ((ps.take (j + 1)).filter fun y => (leadersC g fs t).any fun o => decide (o ∈ y)) = ((ps.take j).filter fun y => (leadersC g fs t).any fun o => decide (o ∈ y)) ++ (if (leadersC g fs t).any (fun o => decide (o ∈ part)) = true then [part] else []) := by
          rw [List.take_add_one, hpart, List.filter_append]
          show _ ++ List.filter _ [part] = _
          rw [List.filter_cons, List.filter_nil]
        refine ⟨rfl, .ref D, rfl, D, rfl, ⟨_, .inl (.inl (sm _ _ eD))⟩, fun B2 nB2 => ?_⟩
        refine lc_sel (walk_list (K := K) (a := D) (xs := ld.map (·.1))) ld (fun c => some (.bl (decide (c.2 ∈ part)))) nB2 (by rw [List.length_map]) (by rw [List.length_map]; omega) (fun G' s => .inl (.inl (s _ _ (sm _ _ eD)))) ?_ ?_
        · intro k x c G' N Y hx hc sk no yes
          obtain rfl : c.1 = x := by
            rw [List.getElem?_map, hc] at hx
            exact Option.some.inj hx
          have cm := List.mem_of_getElem? hc
          have s9 := sm.trans sk
          refine ⟨rfl, ?_⟩
          dsimp only [tYes]
          refine iteT ⟨c.1, rfl, .ref pp, rfl, dPr c.2, part.map dPr, ((hLd c cm).ts (ts_same s9)).dp, dKeep s9 dp1, good_shaped (okP_good gw (okL c cm)) (show 1 ≤ 64 by decide), ?_, (show 1 ≤ 60 by decide), ?_⟩
          · exact (prs_shaped fun s hs => okP_good gw (okpart s hs)).2
          · rw [any_pr, Bool.bne_false]
            exact yes _ G' (Same.refl G') rfl
        intro G7 s7 eB2
        have s67 := sm.trans s7
        have fmS : ld.filterMap (fun c => some (V.bl (decide (c.2 ∈ part)))) = (ld.map fun c => decide (c.2 ∈ part)).map V.bl := by
          rw [List.map_map]
          exact congrFun List.filterMap_eq_map ld
        rw [fmS] at eB2
        refine ⟨B2, _, rfl, .inl (.inl eB2), _, rfl, ?_⟩
        have an : ((ld.map fun c => decide (c.2 ∈ part)).any id) = (leadersC g fs t).any fun o => decide (o ∈ part) := by
          rw [← eLd, List.any_map, List.any_map]
          rfl
        rw [an]
        rw [tk]
        cases z : (leadersC g fs t).any fun o => decide (o ∈ part)
        · refine iteF ⟨s67, acc, s7 _ _ eB, by omega, ?_⟩
          rw [if_neg Bool.false_ne_true, List.append_nil]
          exact dp_tups (ts_same s7) hacc
        · refine iteT ⟨.ref pp, rfl, pp, zs2, rfl, .inl (tupS s67 hTp), .ref tp, rfl, ?_, fun t3 n3 => ?_⟩
          · exact Nat.le_trans (show (zs2 ++ [V.ref tp]).length ≤ 1000 by rw [List.length_append]; show zs2.length + 1 ≤ 1000; omega) (by decide)
          have s8 := same_new (o := .tup (zs2 ++ [V.ref tp])) n3
          refine ⟨acc, s8 _ _ (s7 _ _ eB), Nat.lt_of_le_of_lt (show acc.length ≤ 10000 by omega) (by decide), putS (s67.trans s8) nB, acc ++ [.ref t3], upd_same, by rw [List.length_append]; show acc.length + 1 ≤ _; omega, ?_⟩
          rw [if_pos rfl, List.map_append]
          refine tups_lst (s8 _ _ (s7 _ _ eB)) ?_
          rw [List.map_append]
          refine dsApp (dsKeep (s7.trans s8) hacc) (.cons (.tup (.inl (.inl upd_same)) ?_) .nil)
          rw [List.map_append]
          exact dsApp (dsKeep (s67.trans s8) hdp) (.cons (.tup (.inl (.inl ((s67.trans s8) _ _ e6))) (.cons (.str _) (.cons (.int _) .nil))) .nil)
      · rintro G2 ⟨sm, acc, eB, la, hacc⟩
        rw [lv6, List.take_length] at hacc
        refine ⟨l, B, vs, acc, rfl, rfl, sm _ _ el6, eB, Nat.le_trans (show vs.length + acc.length ≤ 10000 by omega) (by decide), fun l3 n3 => ?_⟩
        have s7 := same_new (o := .lst (vs ++ acc)) n3
        refine ⟨l3, _, _, _, _, vs ++ acc, rfl, (sG6.trans sm).trans s7, upd_same, ?_, PO.step okt⟩
        unfold stepC TupsAt
        rw [List.map_append]
        exact dsApp (dsKeep (sm.trans s7) hP6) (dsKeep s7 hacc)
    · rintro σ G ⟨l, y5, y6, y7, y8, vs, rfl, sG, el, hP, PO⟩
      rw [lz, List.take_length] at hP PO
      have s05 := sH.trans sG
      have cl : closedC g p fs r = (plansC g fs r [firstF g p]).filter fun y => (openI g y).isNone := rfl
      generalize plansC g fs r [firstF g p] = ps at hP PO cl
      have lv6 : vs.length = ps.length := by rw [dsLen hP, List.length_map]
      have p10 : 2 ^ r.length ≤ 1024 := Nat.pow_le_pow_right (by decide) (show r.length ≤ 10 by omega)
      have many := PO.many
      refine ⟨.ref l, rfl, l, rfl, ⟨_, .inl (.inl el)⟩, fun D nD => ?_⟩
      refine lc_it (walk_list (K := K) (a := l) (xs := vs)) (fun j F => Same G F ∧ ∃ acc cs, F D = some (.lst acc) ∧ acc.length ≤ j ∧ TupsAt K F acc cs ∧ AscsOf ((ps.take j).filter fun y => (openI g y).isNone) cs) ⟨same_new nD, [], [], upd_same, Nat.le_refl _, .nil, .nil⟩ (fun j F _ h => .inl (.inl (h.1 _ _ el))) ?_ ?_
      · rintro j y G20 G2 hj ⟨sm, acc, cs', eD, la, hacc, as⟩ ⟨rfl, hyj⟩
        obtain ⟨d1, hd1, dp1⟩ := dsAt hP j y hyj
        obtain ⟨part, hpart, rfl⟩ := map_get hd1
        obtain ⟨pp, zs2, rfl, hTp, hdp, lz2⟩ := tupD dp1
        have pm := List.mem_of_getElem? hpart
        have lpart := PO.len part pm
        have okpart := PO.ok part pm
        have tk : ((ps.take (j + 1)).filter fun y => (openI g y).isNone) = ((ps.take j).filter fun y => (openI g y).isNone) ++ (if (openI g part).isNone = true then [part] else []) := by
          rw [List.take_add_one, hpart, List.filter_append]
          show _ ++ List.filter _ [part] = _
          rw [List.filter_cons, List.filter_nil]
        have s3 := s05.trans sm
        rw [tk]
        refine ⟨rfl, w0, rfl, .ref pp, rfl, w0, pp, g, zs2, part, rfl, pg.same s3, gw, tupS sm hTp, dsKeep sm hdp, by omega, okpart, fun H7 s7 => ⟨rfl, _, rfl, ?_⟩⟩
        rw [opt_none]
        cases z : (openI g part).isNone
        · refine iteF ⟨sm.trans s7, acc, cs', s7 _ _ eD, by omega, dp_tups (ts_same s7) hacc, ?_⟩
          rw [if_neg Bool.false_ne_true, List.append_nil]
          exact as
        · refine iteT ⟨.ref pp, rfl, pp, zs2, part, rfl, tupS (sm.trans s7) hTp, dsKeep (sm.trans s7) hdp, by omega, fun q8 zs8 rs8 H8 s8 e8 h8 asc mem => ?_⟩
          refine ⟨acc, s8 _ _ (s7 _ _ eD), Nat.lt_of_le_of_lt (show acc.length ≤ 10000 by omega) (by decide), putS ((sm.trans s7).trans s8) nD, acc ++ [.ref q8], cs' ++ [rs8], upd_same, by rw [List.length_append]; show acc.length + 1 ≤ _; omega, ?_, ?_⟩
          · refine tups_lst (s8 _ _ (s7 _ _ eD)) ?_
            rw [List.map_append]
            exact dsApp (dsKeep (s7.trans s8) hacc) (.cons (.tup (.inl (.inl e8)) h8) .nil)
          · rw [if_pos rfl]
            exact as.snoc ⟨asc, mem⟩
      · rintro G2 ⟨sm, acc, cs', eD, la, hacc, as⟩
        rw [lv6, List.take_length, ← cl] at as
        exact q D acc r cs' G2 (s05.trans sm) eD hacc fall as
end
end Kn


namespace Kn
open PySem PySem.Spec PyProof.Rows L2
abbrev nPo2 : List Str := ["web", "marks"]
theorem scPo2 : FnScope nPo2 ["web", "marks"] (defScope (topS 36)) := ⟨rfl, rfl, rfl, by decide +kernel, rfl, by decide +kernel, by decide +kernel⟩
def spCmR (K : PySem.W.Frag) (D : Addr) : Sp := fun vs H Q E => ∃ (v : V) (d : PyData), vs = [v] ∧ Dp K H v d ∧ (natB d = true → Q .non H) ∧ (natB d = false → NoUse D "marks" H E)
theorem nat_int {d : PyData} (h : natB d = true) : ∃ p : Int, d = .int p ∧ 0 ≤ p := by
  match d, h with
  | .int p, h => exact ⟨p, rfl, of_decide_eq_true h⟩
/-- what pairs_of does with any marks -/
structure PsP (K : PySem.W.Frag) (D : Addr) (vs : List V) (H : Hp) (Q : VK) (E : XK) : Prop where
  ex : ∃ (w vm : V) (g : Pg) (dm : PyData), vs = [w, vm] ∧ PgAt K H w g ∧ Dp K H vm dm ∧ (natB dm = false → NoUse D "marks" H E) ∧ ∀ p, dm = .int p → 0 ≤ p → WiOk g p ∧ FoundE K g p H Q
def spPs (K : PySem.W.Frag) (D : Addr) : Sp := fun vs H Q E => PsP K D vs H Q E
section
variable {P : Program} {w : World} {K : PySem.W.Frag} {mg : Str → Option Value} {base : Heap}
theorem ok_cmR {f fN fI D : Addr} {fd fdN fdI : FuncData} (F : Fun K "check_marks" "check_marks" (topS 21) f fd) (T : ErrU K mg D fI fdI) (N : Def K mg "is_number" 11 ["thing"] fN fdN) (ON : FnOk P w K mg base CX0 2 fN fdN ["thing"] (spB K natB)) : FnOk P w K mg base (L2.CX P w) 3 f fd ["marks"] (spCmR K D) := by
  have GI : FnOk P w K mg base CX0 1 fI fdI ["self", "word", "at"] (spInit K D) := ok_initU T
  refine F.okX scCm (fun vs H Q E h => ?_) (fun cdv A outer s H vs Q E hr h => ?_)
  · obtain ⟨v, d, rfl, _⟩ := h
    rfl
  · obtain ⟨v, d, rfl, hd, qy, qn⟩ := h
    refine ⟨_, (pss_one (ps_if (pt_not (pt_val (pe_call ON (hr.mono (by decide)) (by rfl) N.m N.F.kp N.b .nil pass0 (pa_cons (pv 0) pa_nil)))) (pss_one (ps_raise rfl (takes_of rfl rfl rfl rfl) (pmk_oex T.x T.i T.t GI (hr.mono (by decide)) T.b .nil pass0 rfl T.m (pa_cons pe_str (pa_cons (pe_un un_neg pe_int) pa_nil))))) pss_nil)), ?_⟩
    refine ⟨v, rfl, v, d, rfl, hd, _, rfl, ?_⟩
    cases z : natB d
    · exact iteT (raisesU (fun R r => ⟨1, rfl, r⟩) (Same.refl H) (qn z))
    · exact iteF (qy z)
theorem ok_ps {f fM fW D : Addr} {fd fdM fdW : FuncData} (F : Fun K "pairs_of" "pairs_of" (topS 36) f fd)
    (Cm : Def K mg "check_marks" 21 ["marks"] fM fdM) (OM : FnOk P w K mg base (L2.CX P w) 3 fM fdM ["marks"] (spCmR K D))
    (Wi : Def K mg "widest_pairs" 27 ["web", "marks", "without"] fW fdW) (OW : FnOk P w K mg base CX0 5 fW fdW ["web", "marks", "without"] (spWi K)) :
    FnOk P w K mg base (L2.CX P w) 6 f fd ["web", "marks"] (spPs K D) := by
  refine F.okX scPo2 (fun vs H Q E h => ?_) (fun cdv A outer s H vs Q E hr h => ?_)
  · obtain ⟨⟨w0, vm, g, dm, rfl, _⟩⟩ := h
    rfl
  · obtain ⟨⟨w0, vm, g, dm, rfl, pg, hm, qn, qy⟩⟩ := h
    refine ⟨_, (pss_cons (ps_expr (pe_call OM (hr.mono (by decide)) (by rfl) Cm.m Cm.F.kp Cm.b .nil (passes_call (takes_of rfl rfl rfl rfl) (fun _ _ _ _ h => h)) (pa_cons (pv 1) pa_nil)))
      (pss_one (ps_ret (pe_call OW hr (by rfl) Wi.m Wi.F.kp Wi.b .nil pass0 (pa_cons (pv 0) (pa_cons (pv 1) (pa_cons (pe_tup pa_nil) pa_nil))))))), ?_⟩
    refine ⟨vm, rfl, vm, dm, rfl, hm, fun z => ?_, qn⟩
    obtain ⟨p, rfl, p0⟩ := nat_int z
    obtain ⟨ok, q⟩ := qy p rfl p0
    cases hm
    refine ⟨w0, rfl, .int p, rfl, (show 0 ≤ sizeLine by decide), fun t nt => ?_⟩
    have s1 := same_new (o := .tup []) nt
    exact ⟨w0, t, g, p, rfl, pg.same s1, ok, upd_same, fun q9 ys qs H' s9 e9 h9 a m => q q9 ys qs H' (s1.trans s9) e9 h9 a m⟩
end
end Kn


namespace Kn
open PySem PySem.Spec PyProof.Rows L2
/-- what the closed plans are -/
structure ClosedX (g : Pg) (p : Int) (X : List (Str × Int)) : Prop where
  asc : Asc X
  sub : ∀ s ∈ X, s ∈ foundP g p
  led : LedF g p X
  cl : openI g X = none
theorem LedF.same {g : Pg} {p : Int} {fs gs : List (Str × Int)} (h : LedF g p fs) (e : ∀ s, s ∈ gs ↔ s ∈ fs) : LedF g p gs := h.of e
theorem asc_same {c y z : List (Str × Int)} (a : Asc c) (b : Asc z) (h : ∀ s, s ∈ c ↔ s ∈ y) (k : ∀ s, s ∈ y ↔ s ∈ z) : c = z := asc_eq a b fun s => (h s).trans (k s)
theorem openI_same {g : Pg} {a b : List (Str × Int)} (h : ∀ s, s ∈ a ↔ s ∈ b) : openI g a = openI g b := by
  have lvm : ∀ t, t ∈ lv g a ↔ t ∈ lv g b := fun t => ⟨lv_mono fun s hs => (h s).mp hs, lv_mono fun s hs => (h s).mpr hs⟩
  have e : ∀ n, openB g a n = openB g b n := fun n => by
    have e1 : (n ∈ nearL g a) = (n ∈ nearL g b) := by
      unfold nearL
      rw [mem_ascS, mem_ascS, List.mem_map, List.mem_map]
      simp only [lvm]
    have e2 : (n ∈ quietL g a) = (n ∈ quietL g b) := by
      unfold quietL
      rw [mem_ascS, mem_ascS, List.mem_map, List.mem_map]
      simp only [List.mem_filter, lvm]
    have e3 : (n ∈ kindsL a) = (n ∈ kindsL b) := by
      unfold kindsL
      rw [mem_ascS, mem_ascS, List.mem_map, List.mem_map]
      simp only [h]
    unfold openB
    simp only [e1, e2, e3]
  have f : ∀ (ns : List Str) (i : Nat), openFrom g a ns i = openFrom g b ns i := by
    intro ns
    induction ns with
    | nil => exact fun i => rfl
    | cons n ns ih =>
      intro i
      show (if openB g a n = true then some i else openFrom g a ns (i + 1)) = (if openB g b n = true then some i else openFrom g b ns (i + 1))
      rw [e n, ih]
  exact f _ 0
theorem closedC_mem {g : Pg} (G : GW g) {p : Int} {fs r : List (Str × Int)} {cs : List (List (Str × Int))} (mem : ∀ s, s ∈ fs ↔ s ∈ foundP g p) (fall : FallOf fs r) (as : AscsOf (closedC g p fs r) cs) : ∀ X, X ∈ cs ↔ ClosedX g p X := by
  obtain ⟨al, ex⟩ := plansC_all G mem fall.1 fall.2.1 fall.2.2
  intro X
  constructor
  · intro h
    obtain ⟨y, hy, a, e⟩ := as.left X h
    obtain ⟨h1, h2⟩ := List.mem_filter.mp hy
    obtain ⟨_, s1, l1⟩ := al y h1
    refine ⟨a, fun s hs => s1 s ((e s).mp hs), l1.of e, ?_⟩
    rw [openI_same e]
    simpa using h2
  · rintro ⟨a, s1, l1, o1⟩
    obtain ⟨y, hy, e⟩ := ex X s1 l1
    have hf : y ∈ closedC g p fs r := List.mem_filter.mpr ⟨hy, by rw [openI_same e, o1]; rfl⟩
    obtain ⟨c, hc, ac, ec⟩ := as.right y hf
    rw [← asc_same ac a ec e]
    exact hc
theorem closedC_ne {g : Pg} (G : GW g) {p : Int} {fs r : List (Str × Int)} {cs : List (List (Str × Int))} (mem : ∀ s, s ∈ fs ↔ s ∈ foundP g p) (fall : FallOf fs r) (as : AscsOf (closedC g p fs r) cs) : (∀ x ∈ cs, x ≠ []) ∨ cs = [[]] := by
  cases c : canB g g.asks p
  · have f0 := found_none c
    have r0 : r = [] := by
      cases r with
      | nil => rfl
      | cons t r =>
        have z := (mem t).mp ((fall.2.1 t).mp (List.mem_cons_self ..))
        rw [f0] at z
        cases z
    subst r0
    have e1 : closedC g p fs [] = [[]] ∨ closedC g p fs [] = [] := by
      unfold closedC plansC firstF
      rw [c, if_neg Bool.false_ne_true]
      cases z : (openI g []).isNone
      · right
        rw [List.filter_cons, z]
        rfl
      · left
        rw [List.filter_cons, z]
        rfl
    rcases e1 with e | e
    · rw [e] at as
      cases as with
      | cons a b =>
        cases b
        rename_i x
        have : x = [] := by
          cases x with
          | nil => rfl
          | cons t x =>
            have z := (a.2 t).mp (List.mem_cons_self ..)
            cases z
        rw [this]
        exact .inr rfl
    · rw [e] at as
      cases as
      exact .inl fun x hx => by cases hx
  · refine .inl fun x hx e => ?_
    have z := ((closedC_mem G mem fall as x).mp hx).led.first c
    rw [e] at z
    cases z
/-- what closed_plans does with any marks -/
structure CqP (K : PySem.W.Frag) (D : Addr) (vs : List V) (H : Hp) (Q : VK) (E : XK) : Prop where
  ex : ∃ (w vm : V) (g : Pg) (dm : PyData), vs = [w, vm] ∧ PgAt K H w g ∧ Dp K H vm dm ∧ (natB dm = false → NoUse D "marks" H E) ∧ ∀ p, dm = .int p → 0 ≤ p → WiOk g p ∧ (foundP g p).length ≤ 10 ∧ (∀ fs r, (∀ s, s ∈ fs ↔ s ∈ foundP g p) → FallOf fs r → (closedC g p fs r).length + 1 < 64) ∧
    ∀ (q : Addr) (zs : List V) (rs : List (List (Str × Int))) (H' : Hp), Same H H' → H' q = some (.tup zs) → TupsAt K H' zs rs → OrdP rs → (∀ X, X ∈ rs ↔ ClosedX g p X) → Q (.ref q) H'
def spCq (K : PySem.W.Frag) (D : Addr) : Sp := fun vs H Q E => CqP K D vs H Q E
section
variable {P : Program} {w : World} {K : PySem.W.Frag} {mg : Str → Option Value} {base : Heap}
theorem ok_cq {f fM fW fC fA D : Addr} {fd fdM fdW fdC fdA : FuncData} (F : Fun K "closed_plans" "closed_plans" (topS 38) f fd)
    (Cm : Def K mg "check_marks" 21 ["marks"] fM fdM) (OM : FnOk P w K mg base (L2.CX P w) 3 fM fdM ["marks"] (spCmR K D))
    (Wi : Def K mg "widest_pairs" 27 ["web", "marks", "without"] fW fdW) (OW : FnOk P w K mg base CX0 5 fW fdW ["web", "marks", "without"] (spWi K))
    (Cw : Def K mg "closed_within" 35 ["web", "marks", "pairs"] fC fdC) (OC : FnOk P w K mg base CX0 6 fC fdC ["web", "marks", "pairs"] (spCw K))
    (As : Def K mg "ascending" 8 ["things"] fA fdA) (OA : FnOk P w K mg base CX0 1 fA fdA ["things"] (spAsL K)) :
    FnOk P w K mg base (L2.CX P w) 7 f fd ["web", "marks"] (spCq K D) := by
  refine F.okX scCq (fun vs H Q E h => ?_) (fun cdv A outer s H vs Q E hr h => ?_)
  · obtain ⟨⟨w0, vm, g, dm, rfl, _⟩⟩ := h
    rfl
  · obtain ⟨⟨w0, vm, g, dm, rfl, pg, hm, qn, qy⟩⟩ := h
    refine ⟨_, (pss_cons (ps_expr (pe_call OM (hr.mono (by decide)) (by rfl) Cm.m Cm.F.kp Cm.b .nil (passes_call (takes_of rfl rfl rfl rfl) (fun _ _ _ _ h => h)) (pa_cons (pv 1) pa_nil)))
      (pss_one (ps_ret (pe_call OA (hr.mono (by decide)) (by rfl) As.m As.F.kp As.b .nil pass0 (pa_cons (pe_call OC hr (by rfl) Cw.m Cw.F.kp Cw.b .nil pass0 (pa_cons (pv 0) (pa_cons (pv 1) (pa_cons (pe_call OW (hr.mono (by decide)) (by rfl) Wi.m Wi.F.kp Wi.b .nil pass0 (pa_cons (pv 0) (pa_cons (pv 1) (pa_cons (pe_tup pa_nil) pa_nil)))) pa_nil)))) pa_nil))))), ?_⟩
    refine ⟨vm, rfl, vm, dm, rfl, hm, fun z => ?_, qn⟩
    obtain ⟨p, rfl, p0⟩ := nat_int z
    obtain ⟨ok, few, cf, q⟩ := qy p rfl p0
    cases hm
    have gw := ok.gw
    refine ⟨w0, rfl, .int p, rfl, w0, rfl, .int p, rfl, (show 0 ≤ sizeLine by decide), fun t nt => ?_⟩
    have s1 := same_new (o := .tup []) nt
    refine ⟨w0, t, g, p, rfl, pg.same s1, ok, upd_same, fun q9 ys fs H' s9 e9 h9 a m => ?_⟩
    have s19 := s1.trans s9
    have lf : fs.length ≤ (foundP g p).length := nodup_sub a.nd fun s hs => (m s).mp hs
    have fg := found_good gw (p := p)
    have cas : foundP g p = [] ∨ p ≤ 6 := by
      rcases ok.lo with z | z
      · exact .inr z
      · exact .inl (found_none z)
    have okf : ∀ s ∈ fs, okP g s := fun s hs => by
      have hm := (m s).mp hs
      obtain ⟨a1, _, a3, a4⟩ := fg.all s hm
      rcases cas with z | z
      · rw [z] at hm
        cases hm
      · exact ⟨a1, by omega⟩
    refine ⟨w0, q9, g, p, ys, fs, rfl, pg.same s19, gw, e9, h9, by omega, okf, fun c => (m _).mpr (found_ask c), fun l zs r cs H2 s2 e2 h2 fall as => ?_⟩
    · refine ⟨l, zs, cs, rfl, .inl (.inl e2), h2, by rw [as.len]; exact cf fs r m fall, closedC_ne gw m fall as, fun qq zq rs H3 s3 e3 h3 od mem => ?_⟩
      exact q qq zq rs H3 ((s19.trans s2).trans s3) e3 h3 od fun X => (mem X).trans (closedC_mem gw m fall as X)
end
end Kn


namespace Kn
open PySem PySem.Spec PyProof.Rows L2
/-! ### data under draws -/
mutual
theorem dKeepF {K : PySem.W.Frag} {f a : Addr} {ns : List Int} {c : Nat} {H H' : Hp} (d0 : Fd f a ns H c) (k : Keep f H H') : ∀ {v : V} {d : PyData}, Dp K H v d → Dp K H' v d
  | _, _, .non => .non
  | _, _, .bl b => .bl b
  | _, _, .int i => .int i
  | _, _, .str x => .str x
  | _, _, .lst h r => .lst (seqK d0 k h) (dsKeepF d0 k r)
  | _, _, .tup h r => .tup (tupT (ts_fd d0 k) h) (dsKeepF d0 k r)
theorem dsKeepF {K : PySem.W.Frag} {f a : Addr} {ns : List Int} {c : Nat} {H H' : Hp} (d0 : Fd f a ns H c) (k : Keep f H H') : ∀ {vs : List V} {ds : List PyData}, DpAll K H vs ds → DpAll K H' vs ds
  | _, _, .nil => .nil
  | _, _, .cons a b => .cons (dKeepF d0 k a) (dsKeepF d0 k b)
end
/-! ### what is no plan -/
theorem plan_fail {g : Pg} {p : Int} {ds : List PyData} {k : Nat} (hk : k < ds.length) (h : goodAt g p ds k = false) : planD g p (.tuple ds) = false := by
  have e : planD g p (.tuple ds) = ((List.range ds.length).all (goodAt g p ds) && (ledP g (g.asks, p) (ds.filterMap toPr) && firstP g p (ds.filterMap toPr))) := rfl
  rw [e, List.all_eq_false.mpr ⟨k, List.mem_range.mpr hk, by rw [h]; exact Bool.false_ne_true⟩, Bool.false_and]
theorem bad_item {g : Pg} {p : Int} {ds : List PyData} {d : PyData} (hd : d ∈ ds) (h : vpB g p d = false) : planD g p (.tuple ds) = false := by
  obtain ⟨k, hk, e⟩ := List.mem_iff_getElem.mp hd
  refine plan_fail hk ?_
  unfold goodAt
  rw [List.getD_eq_getElem?_getD, List.getElem?_eq_getElem hk, e]
  show (vpB g p d && _) = false
  rw [h, Bool.false_and]
theorem lt_asym {a b : PyData} (h : PySem.W.dataLt a b = true) : PySem.W.dataLt b a = false := by
  cases z : PySem.W.dataLt b a with
  | false => rfl
  | true =>
    have y : PySem.W.dataLt a a = true := PyProof.Rows.lex_trans _ _ _ h z
    rw [PySem.W.dataLt_self] at y
    cases y
theorem not_after {g : Pg} {p : Int} {ds : List PyData} {k : Nat} {x y : PyData} (hx : ds[k]? = some x) (hy : ds[k + 1]? = some y) (h : PySem.W.dataLt x y = false) : planD g p (.tuple ds) = false := by
  refine plan_fail (List.getElem?_eq_some_iff.mp hy).1 ?_
  unfold goodAt
  rw [List.getD_eq_getElem?_getD, List.getD_eq_getElem?_getD, hy, Nat.add_sub_cancel, hx]
  show (vpB g p y && (decide (k + 1 = 0) || PySem.W.dataLt x y)) = false
  rw [h, decide_eq_false (by omega)]
  exact Bool.and_false _
theorem rev_bad {g : Pg} {p : Int} {qs : List (Str × Int)} (h : Asc qs) (l : 1 < qs.length) : planD g p (.tuple (qs.map dPr).reverse) = false := by
  have n := List.length_map (f := dPr) (as := qs)
  have a0 : qs[qs.length - 2]? = some (qs[qs.length - 2]'(by omega)) := List.getElem?_eq_getElem (by omega)
  have a1 : qs[qs.length - 1]? = some (qs[qs.length - 1]'(by omega)) := List.getElem?_eq_getElem (by omega)
  have lt := List.pairwise_iff_getElem.mp h (qs.length - 2) (qs.length - 1) (by omega) (by omega) (by omega)
  refine not_after (k := 0) (x := dPr (qs[qs.length - 1]'(by omega))) (y := dPr (qs[qs.length - 2]'(by omega))) ?_ ?_ (lt_asym lt)
  · rw [List.getElem?_reverse (by rw [List.length_map]; omega), List.length_map, show qs.length - 1 - 0 = qs.length - 1 by omega, List.getElem?_map, a1]
    rfl
  · rw [List.getElem?_reverse (by rw [List.length_map]; omega), List.length_map, show qs.length - 1 - (0 + 1) = qs.length - 2 by omega, List.getElem?_map, a0]
    rfl
theorem dup_bad {g : Pg} {p : Int} {qs : List (Str × Int)} (l : 0 < qs.length) : planD g p (.tuple (qs.map dPr ++ (qs.map dPr).drop ((qs.map dPr).length - 1))) = false := by
  have n : (qs.map dPr).length = qs.length := List.length_map _
  have a1 : (qs.map dPr)[qs.length - 1]? = some ((qs.map dPr)[qs.length - 1]'(by omega)) := List.getElem?_eq_getElem (by omega)
  generalize (qs.map dPr)[qs.length - 1]'(by omega) = x at a1
  refine not_after (k := qs.length - 1) (x := x) (y := x) ?_ ?_ (PySem.W.dataLt_self x)
  · rw [List.getElem?_append_left (by omega)]
    exact a1
  · rw [List.getElem?_append_right (by omega), n, List.getElem?_drop, show qs.length - 1 + (qs.length - 1 + 1 - qs.length) = qs.length - 1 by omega]
    exact a1
theorem vp_prs {g : Pg} {p : Int} (qs : List (Str × Int)) : vpB g p (.tuple (qs.map dPr)) = false := by
  match qs with
  | [] => rfl
  | [_] => rfl
  | [_, _] => rfl
  | _ :: _ :: _ :: _ => rfl
/-! ### sizes -/
theorem nodes_ap2 : ∀ (ds es : List PyData), nodesDs (ds ++ es) = nodesDs ds + nodesDs es
  | [], es => by show nodesDs es = 0 + nodesDs es; omega
  | d :: r, es => by
    show nodesD d + nodesDs (r ++ es) = nodesD d + nodesDs r + nodesDs es
    rw [nodes_ap2 r es]
    omega
theorem good_ap2 : ∀ (ds es : List PyData), goodDs (ds ++ es) = (goodDs ds && goodDs es)
  | [], es => by show goodDs es = (true && goodDs es); rw [Bool.true_and]
  | d :: r, es => by
    show (goodD d && goodDs (r ++ es)) = ((goodD d && goodDs r) && goodDs es)
    rw [good_ap2 r es, Bool.and_assoc]
theorem deep_app : ∀ (ds es : List PyData), PyData.depthAll (ds ++ es) = max (PyData.depthAll ds) (PyData.depthAll es)
  | [], es => by show PyData.depthAll es = max 0 _; omega
  | d :: r, es => by
    show max d.depth (PyData.depthAll (r ++ es)) = max (max d.depth (PyData.depthAll r)) (PyData.depthAll es)
    rw [deep_app r es]
    omega
structure SmD (ds : List PyData) : Prop where
  g : goodDs ds = true
  dp : PyData.depthAll ds ≤ 3
  n : nodesDs ds ≤ 300
theorem SmD.app {ds es : List PyData} (h1 : goodDs ds = true ∧ PyData.depthAll ds ≤ 3 ∧ nodesDs ds ≤ 150) (h2 : goodDs es = true ∧ PyData.depthAll es ≤ 3 ∧ nodesDs es ≤ 150) : SmD (ds ++ es) :=
  ⟨by rw [good_ap2, h1.1, h2.1]; rfl, by rw [deep_app]; omega, by rw [nodes_ap2]; omega⟩
theorem SmD.tup {ds : List PyData} (h : SmD ds) : Nice (.tuple ds) := ⟨h.g, by have z : (PyData.tuple ds).depth = PyData.depthAll ds + 1 := rfl; have := h.dp; omega, by have z : nodesD (.tuple ds) = 1 + nodesDs ds := rfl; have := h.n; omega⟩
theorem SmD.lst {ds : List PyData} (h : SmD ds) : Nice (.list ds) := ⟨h.g, by have z : (PyData.list ds).depth = PyData.depthAll ds + 1 := rfl; have := h.dp; omega, by have z : nodesD (.list ds) = 1 + nodesDs ds := rfl; have := h.n; omega⟩
structure PtOk (g : Pg) (qs : List (Str × Int)) : Prop where
  few : qs.length ≤ 8
  asc : Asc qs
  each : ∀ s ∈ qs, okP g s
theorem prs_nodes {g : Pg} (G : GW g) : ∀ {qs : List (Str × Int)}, (∀ s ∈ qs, okP g s) → nodesDs (qs.map dPr) ≤ 11 * qs.length
  | [], _ => Nat.le_refl _
  | s :: r, h => by
    have ih := prs_nodes G (qs := r) fun x hx => h x (List.mem_cons_of_mem _ hx)
    obtain ⟨e, he⟩ := Option.isSome_iff_exists.mp (h s (List.mem_cons_self ..)).1
    obtain ⟨em, en⟩ := row_is he
    have l := name_len (G.nm e em)
    rw [en] at l
    show nodesD (dPr s) + nodesDs (r.map dPr) ≤ _
    have z : nodesD (dPr s) = 1 + ((1 + s.1.length) + (1 + 0)) := rfl
    rw [List.length_cons]
    omega
theorem PtOk.small {g : Pg} (G : GW g) {qs : List (Str × Int)} (h : PtOk g qs) : goodDs (qs.map dPr) = true ∧ PyData.depthAll (qs.map dPr) ≤ 1 ∧ nodesDs (qs.map dPr) ≤ 88 :=
  ⟨prs_goods fun s hs => okP_good G (h.each s hs), prs_deep qs, by have := prs_nodes G h.each; have := h.few; omega⟩
structure NoPlan (g : Pg) (p : Int) (d : PyData) : Prop where
  no : planD g p d = false
  ni : Nice d
end Kn


namespace Kn
open PySem PySem.Spec PyProof.Rows L2
/-! ### f(k = v, ..): keywords alone, in any order -/
def tCallK (m : Nat) (sp : Sp) (gV : List V → List V → List V) (E : XK) (tk : TA) : TE := fun σ H Q => tk σ H fun zs H2 => zs.length = m ∧ sp (gV [] zs) H2 Q E
section
variable {X : Cx} {CX : CXT} {k : Nat} {f : Addr} {fd : FuncData} {ps ks : List Str} {sp : Sp} {E : XK} {x : Str} {p pos : Pos} {kws : List Keyword} {tk : TA} {g : List Value → List Value → List Value} {gV : List V → List V → List V}
theorem pe_callK (F : FnOk X.prog X.w X.K X.mg X.base CX k f fd ps sp) (hr : Room k X.A) (hg : Gl X x) (hm : X.mg x = some (.ref f)) (hk : PySem.W.keepIn X.K (.ref f) = true) (hb : KBn X.K fd ps 0 ks g gV) (hx : Passes CX X E)
    (hkw : PK X kws tk) (hall : (backToKw pos (keywordEach kws X.env)).all (·.1.isSome) = true := by rfl) (hks : (backToKw pos (keywordEach kws X.env)).filterMap (·.1) = ks := by rfl)
    (hdb : (x == ("__debug__" : Str)) = false := by decide)
    (hpl : ((backTo pos (starEach [] X.env)).any (·.1) || (backToKw pos (keywordEach kws X.env)).any (·.1.isNone)) = false := by rfl) :
    PE X (.Call (.Name x p) [] kws pos) (tCallK ks.length sp gV E tk) := by
  refine ⟨fun pins s σ H Q I h => ?_⟩
  refine wpAny_Call_Name_kw (ld_glob I hg hm ?_ hdb)
  refine PySem.W.callWith_KW0 (h₀ := X.base) I.ok.mod.kin hk hall (thn (hkw.run pos pins s σ H _ I h) fun ws s2 ⟨zs, H2, I2, rz, l2, q2⟩ => ⟨I2.kIn, ?_⟩) hpl
  rw [hks]
  exact run_fnN F hr hb hx I2 .nil rz rfl l2 q2
end
end Kn


namespace Kn
open PySem PySem.Spec PyProof.Rows L2
/-! ### repr of any data -/
def rShowV (K : PySem.W.Frag) : List V → Hp → VK → Prop := fun xs H Q => ∃ (v : V) (d : PyData), xs = [v] ∧ Dp K H v d ∧ d.showable = true ∧ d.hasDict = false ∧ d.depth ≤ 20 ∧ d.shown.length ≤ sizeLine ∧ Q (.str d.shown) H
theorem call_showV {X : Cx} (hq : X.A.guards = some []) (hu : X.A.units + 64 < cLine) : CallR X (.builtin "repr") (rShowV X.K) := by
  rintro pins s σ H xs us Q I rv ⟨v, d, rfl, hd, h1, h2, h3, h4, q⟩
  cases hd with
  | non =>
    obtain ⟨u, rfl, rfl⟩ := vals1 rv
    exact PySem.P.repr_of_none ⟨.str _, H, I.tok _, ⟨_, rfl⟩, q⟩
  | bl b =>
    obtain ⟨u, rfl, rfl⟩ := vals1 rv
    refine PySem.P.repr_of_bool ⟨.str (PyData.bool b).shown, H, I.tok _, ⟨s.toks, ?_⟩, q⟩
    cases b <;> rfl
  | int i =>
    obtain ⟨u, rfl, t, rfl⟩ := vals1 rv
    exact PySem.P.repr_of_int (of_decide_eq_true h1) ⟨.str _, H, I.tok _, ⟨_, rfl⟩, q⟩
  | str x =>
    obtain ⟨u, rfl, t, rfl⟩ := vals1 rv
    exact PySem.P.repr_of_str ⟨.str _, H, I.tok _, ⟨_, rfl⟩, q⟩ h4
  | lst a b => exact call_show hq hu pins s σ H _ us Q I rv ⟨_, _, rfl, .lst a b, h1, h2, h3, h4, q⟩
  | tup a b => exact call_show hq hu pins s σ H _ us Q I rv ⟨_, _, rfl, .tup a b, h1, h2, h3, h4, q⟩
end Kn


namespace Kn
open PySem PySem.Spec PyProof.Rows L2
/-! ### the plan's two tests are one -/
theorem show_bl (b : Bool) : (PyData.bool b).shown.length ≤ sizeLine := by
  cases b
  · exact Nat.le_trans (show (PyData.bool false).shown.length ≤ 10 by decide +kernel) (by decide)
  · exact Nat.le_trans (show (PyData.bool true).shown.length ≤ 10 by decide +kernel) (by decide)
def dWeb (g : Pg) : PyData := .tuple [.tuple (g.es.map dEnt), .str g.asks]
theorem ents_dp {K : PySem.W.Frag} {H : Hp} : ∀ {vs : List V} {es : List Ent}, EntsAt K H vs es → DpAll K H vs (es.map dEnt)
  | _, _, .nil => .nil
  | _, _, .cons a b => .cons a.dp (ents_dp b)
theorem PgAt.dp {K : PySem.W.Frag} {H : Hp} {v : V} {g : Pg} : PgAt K H v g → Dp K H v (dWeb g) := fun ⟨_, _, _, a, b, c, d⟩ => a ▸ .tup b (.cons (.tup c (ents_dp d)) (.cons (.str _) .nil))
theorem strs_good {ts : List Str} (h : ∀ x ∈ ts, nameB (.str x) = true) : goodDs (ts.map PyData.str) = true ∧ nodesDs (ts.map PyData.str) ≤ 9 * ts.length := by
  induction ts with
  | nil => exact ⟨rfl, Nat.le_refl _⟩
  | cons t r ih =>
    obtain ⟨a, b⟩ := ih fun x hx => h x (List.mem_cons_of_mem _ hx)
    have z := h t (List.mem_cons_self ..)
    have l := name_len z
    refine ⟨?_, ?_⟩
    · show (goodD (.str t) && goodDs (r.map PyData.str)) = true
      rw [name_ascii z, a]
      rfl
    · show (1 + t.length) + nodesDs (r.map PyData.str) ≤ 9 * (r.length + 1)
      omega
theorem ents_good {es : List Ent} (h : ∀ e ∈ es, nameB (.str e.name) = true ∧ (1 ≤ e.fee ∧ e.fee ≤ 9) ∧ e.row.length ≤ 5 ∧ ∀ x ∈ e.row, nameB (.str x) = true) : goodDs (es.map dEnt) = true ∧ nodesDs (es.map dEnt) ≤ 60 * es.length ∧ PyData.depthAll (es.map dEnt) ≤ 8 := by
  induction es with
  | nil => exact ⟨rfl, Nat.le_refl _, Nat.zero_le _⟩
  | cons e r ih =>
    obtain ⟨a, b, c⟩ := ih fun x hx => h x (List.mem_cons_of_mem _ hx)
    obtain ⟨n, f, l5, rw_⟩ := h e (List.mem_cons_self ..)
    obtain ⟨rg, rn⟩ := strs_good rw_
    have l := name_len n
    refine ⟨?_, ?_, ?_⟩
    · show ((goodD (.str e.name) && (goodD (.int e.fee) && (true && (goodDs (e.row.map PyData.str) && true)))) && goodDs (r.map dEnt)) = true
      rw [name_ascii n, int_good (by omega), rg, a]
      rfl
    · show (1 + ((1 + e.name.length) + (1 + (1 + ((1 + nodesDs (e.row.map PyData.str)) + 0))))) + nodesDs (r.map dEnt) ≤ 60 * (r.length + 1)
      omega
    · show max (dEnt e).depth (PyData.depthAll (r.map dEnt)) ≤ 8
      have := ent_deep e
      omega
theorem web_show {g : Pg} (G : GW g) : (dWeb g).showable = true ∧ (dWeb g).hasDict = false ∧ (dWeb g).depth ≤ 20 ∧ (dWeb g).shown.length ≤ sizeLine := by
  have inNm : ∀ s, s ∈ g.es.map (·.name) → nameB (.str s) = true := fun s hs => by
    obtain ⟨e, he, rfl⟩ := List.mem_map.mp hs
    exact G.nm e he
  obtain ⟨a, b, c⟩ := ents_good (es := g.es) fun e he => ⟨G.nm e he, G.fee e he, G.rows e he, fun x hx => inNm x (G.tab e he x hx)⟩
  have an := inNm _ G.asks
  have al := name_len an
  have few := G.few
  have gd : goodD (dWeb g) = true := by
    show (goodDs (g.es.map dEnt) && (goodD (.str g.asks) && true)) = true
    rw [a, name_ascii an]
    rfl
  have nd : nodesD (dWeb g) = 1 + ((1 + nodesDs (g.es.map dEnt)) + ((1 + g.asks.length) + 0)) := rfl
  obtain ⟨s1, s2, s3⟩ := good_shown _ gd
  refine ⟨s1, s2, ?_, Nat.le_trans (show (dWeb g).shown.length ≤ 100000 by omega) (by decide)⟩
  have z : (dWeb g).depth = max (PyData.depthAll (g.es.map dEnt) + 1) (max 0 0) + 1 := rfl
  omega
theorem filt_all {g : Pg} : ∀ part : List (Str × Int), ((part.filter fun s => !canB g s.1 s.2).map dPr).isEmpty = part.all fun s => canB g s.1 s.2
  | [] => rfl
  | s :: r => by
    rw [List.filter_cons, List.all_cons]
    cases canB g s.1 s.2
    · rfl
    · exact filt_all r
theorem show_two (b : Bool) : (PyData.list [.bool b, .bool b]).shown.length ≤ sizeLine := by
  cases b
  · exact Nat.le_trans (show (PyData.list [.bool false, .bool false]).shown.length ≤ 20 by decide +kernel) (by decide)
  · exact Nat.le_trans (show (PyData.list [.bool true, .bool true]).shown.length ≤ 20 by decide +kernel) (by decide)
structure PartOk (g : Pg) (p : Int) (qs : List (Str × Int)) : Prop where
  pt : PtOk g qs
  lo : ∀ s ∈ qs, 1 ≤ s.2 ∧ (canB g s.1 s.2 = true → s.2 ≤ p)
theorem plan_law {g : Pg} (G : GW g) {p : Int} {qs : List (Str × Int)} (h : PartOk g p qs) : planD g p (.tuple (qs.map dPr)) = ((qs.all fun s => canB g s.1 s.2) && lawP g p qs) := by
  have back : (qs.map dPr).filterMap toPr = qs := by
    rw [List.filterMap_map]
    have : (toPr ∘ dPr) = some := by funext s; rfl
    rw [this, List.filterMap_some]
  have e0 : planD g p (.tuple (qs.map dPr)) = ((List.range (qs.map dPr).length).all (goodAt g p (qs.map dPr)) && (ledP g (g.asks, p) ((qs.map dPr).filterMap toPr) && firstP g p ((qs.map dPr).filterMap toPr))) := rfl
  rw [e0, back, List.length_map]
  have vp : ∀ s ∈ qs, vpB g p (dPr s) = canB g s.1 s.2 := fun s hs => by
    have l := h.lo s hs
    show ((rowOf g s.1).isSome && decide (0 ≤ s.2) && decide (s.2 ≤ p) && canB g s.1 s.2) = _
    rw [(h.pt.each s hs).1, decide_eq_true (show 0 ≤ s.2 by omega)]
    cases zc : canB g s.1 s.2
    · exact Bool.and_false _
    · rw [decide_eq_true (l.2 zc)]
      rfl
  have good : ∀ k, (hk : k < qs.length) → goodAt g p (qs.map dPr) k = canB g (qs[k]'hk).1 (qs[k]'hk).2 := fun k hk => by
    have ek : (qs.map dPr).getD k .none = dPr (qs[k]'hk) := by
      rw [List.getD_eq_getElem?_getD, List.getElem?_map, List.getElem?_eq_getElem hk]
      rfl
    unfold goodAt
    rw [ek, vp _ (List.getElem_mem hk)]
    by_cases k0 : k = 0
    · rw [decide_eq_true k0, Bool.true_or, Bool.and_true]
    · have ep : (qs.map dPr).getD (k - 1) .none = dPr (qs[k - 1]'(by omega)) := by
        rw [List.getD_eq_getElem?_getD, List.getElem?_map, List.getElem?_eq_getElem (by omega : k - 1 < qs.length)]
        rfl
      have lt := List.pairwise_iff_getElem.mp h.pt.asc (k - 1) k (by omega) hk (by omega)
      rw [ep, lt, Bool.or_true, Bool.and_true]
  have e1 : (List.range qs.length).all (goodAt g p (qs.map dPr)) = qs.all fun s => canB g s.1 s.2 := by
    rw [Bool.eq_iff_iff, List.all_eq_true, List.all_eq_true]
    constructor
    · intro z s hs
      obtain ⟨k, hk, rfl⟩ := List.mem_iff_getElem.mp hs
      rw [← good k hk]
      exact z k (List.mem_range.mpr hk)
    · intro z k hk
      have hk := List.mem_range.mp hk
      rw [good k hk]
      exact z _ (List.getElem_mem hk)
  rw [e1]
  cases zall : qs.all fun s => canB g s.1 s.2
  · rfl
  · rw [Bool.true_and, Bool.true_and]
    unfold firstP lawP
    cases zc : canB g g.asks p
    · rw [if_neg Bool.false_ne_true]
      show (ledP g (g.asks, p) qs && true) = _
      rw [Bool.and_true]
      cases zl : ledP g (g.asks, p) qs
      · rw [decide_eq_false (fun e => by rw [e] at zl; cases zl)]
      · rw [decide_eq_true (no_ask G zc (List.all_eq_true.mp zall) (fun s hs => (h.lo s hs).2 (List.all_eq_true.mp zall s hs)) zl)]
    · rw [if_pos rfl, Bool.and_comm]
      rfl
end Kn


namespace Kn
open PySem PySem.Spec PyProof.Rows L2
abbrev nPn : List Str := ["_law_book", "_law_power", "_law_part"]
theorem scPn : FnScope nPn ["_law_book", "_law_power"] (defScope (topS 54)) := ⟨rfl, rfl, rfl, by decide +kernel, rfl, by decide +kernel, by decide +kernel⟩
abbrev nTo : List Str := ["_law_book", "_law_power", "_law_some", "_law_found"]
abbrev nIl : List Str := ["_law_one", "_law_two", "_law_own"]
abbrev nIw : List Str := ["_law_told_here", "_law_wide", "_law_j"]
theorem zip_snd {α β : Type} {k : β → Bool} : ∀ {xs : List α} {ys : List β}, xs.length = ys.length → ((xs.zip ys).filter fun c => k c.2).map (·.2) = ys.filter k
  | [], [], _ => rfl
  | x :: xs, y :: ys, h => by
    have ih := zip_snd (k := k) (xs := xs) (ys := ys) (Nat.succ.inj h)
    rw [List.zip_cons_cons, List.filter_cons, List.filter_cons]
    cases z : k y
    · rw [if_neg (by simp [z]), if_neg (by simp)]
      exact ih
    · rw [if_pos (by simp [z]), if_pos rfl, List.map_cons, ih]
theorem tups_filt {K : PySem.W.Frag} {H : Hp} {k : List (Str × Int) → Bool} : ∀ {ys : List V} {qs : List (List (Str × Int))}, TupsAt K H ys qs → TupsAt K H (((ys.zip qs).filter fun c => k c.2).map (·.1)) (qs.filter k)
  | _, [], .nil => .nil
  | y :: ys, q :: qs, .cons a b => by
    have ih := tups_filt (k := k) (ys := ys) (qs := qs) b
    rw [List.zip_cons_cons, List.filter_cons, List.filter_cons]
    cases z : k q
    · rw [if_neg (by simp [z]), if_neg (by simp)]
      exact ih
    · rw [if_pos (by simp [z]), if_pos rfl, List.map_cons]
      exact .cons a ih
def spPn (K : PySem.W.Frag) : Sp := fun vs H Q _ => ∃ (w : V) (g : Pg) (p : Int), vs = [w, .int p] ∧ PgAt K H w g ∧ CaseOk g p ∧
  ∀ (l : Addr) (ys : List V) (qs : List (List (Str × Int))) (fs : List (Str × Int)) (H' : Hp), Same H H' → H' l = some (.lst ys) → TupsAt K H' ys qs → fs.Perm (foundP g p) → Asc fs → (∀ x, x ∈ qs ↔ (x.Sublist fs ∧ lawP g p x = true)) → qs.length ≤ 256 → (qs.Nodup ∧ qs.Pairwise fun x y => PySem.W.dataLt (.tuple (y.map dPr)) (.tuple (x.map dPr)) = false) → Q (.ref l) H'
theorem dPr_inj : ∀ {ps qs : List (Str × Int)}, ps.map dPr = qs.map dPr → ps = qs
  | [], [], _ => rfl
  | [], q :: qs, h => by cases h
  | p :: ps, [], h => by cases h
  | p :: ps, q :: qs, h => by
    rw [List.map_cons, List.map_cons] at h
    injection h with h1 h2
    rw [dPr_inj h2]
    have e : toPr (dPr p) = toPr (dPr q) := by rw [h1]
    rw [Option.some.inj (show some p = some q from e)]
section
variable {P : Program} {w : World} {K : PySem.W.Frag} {mg : Str → Option Value} {base : Heap}
theorem ok_pn {f fU fP fL : Addr} {fd fdU fdP fdL : FuncData} (F : Fun K "_law_plans" "_law_plans" (topS 54) f fd)
    (Su : Def K mg "_law_subsets" 53 ["_law_items"] fU fdU) (OU : FnOk P w K mg base CX0 1 fU fdU ["_law_items"] (spSu K))
    (Pa : Def K mg "_law_pairs" 46 ["_law_book", "_law_power"] fP fdP) (OP : FnOk P w K mg base CX0 3 fP fdP ["_law_book", "_law_power"] (spLp K))
    (Li : Def K mg "_law_is_plan" 52 ["_law_book", "_law_power", "_law_some"] fL fdL) (OL : FnOk P w K mg base CX0 4 fL fdL ["_law_book", "_law_power", "_law_some"] (spLi K)) :
    FnOk P w K mg base CX0 5 f fd ["_law_book", "_law_power"] (spPn K) := by
  refine F.ok scPn (fun vs H Q E h => ?_) (fun cdv A outer s H vs Q E hr h => ?_)
  · obtain ⟨w0, g, p, rfl, _⟩ := h
    rfl
  · obtain ⟨w0, g, p, rfl, pg, C, q⟩ := h
    refine ⟨_, (pss_one (ps_ret (pe_lc (own := [("_law_part", 2)]) (g := gName 2) (by rfl) scPn.nd (pi_list (pe_call OU (hr.mono (by decide)) (by rfl) Su.m Su.F.kp Su.b .nil pass0 (pa_cons (pe_call OP (hr.mono (by decide)) (by rfl) Pa.m Pa.F.kp Pa.b .nil pass0 (pa_cons (pv 0) (pa_cons (pv 1) pa_nil))) pa_nil))) (blkOk_by (own := [("_law_part", 2)]) (N := nPn) (sc := defScope (topS 54)) (by decide +kernel)) (fun _ _ _ _ _ => (pg_name (i := 2) scPn.nd rfl (Or.inl rfl))) (fun _ _ _ _ _ => (pts_one (pt_val (pe_call OL hr (by rfl) Li.m Li.F.kp Li.b .nil pass0 (pa_cons (pv 0) (pa_cons (pv 1) (pa_cons (pv 2) pa_nil))))))) (fun _ _ _ _ _ => (pv 2))))), ?_⟩
    have gw := C.gw
    have p0 := C.p0
    have p6 := C.p6
    refine ⟨w0, rfl, .int p, rfl, w0, g, p, rfl, pg, gw, p0, p6, fun q1 z1 fs H1 s1 e1 h1 pr asc => ?_⟩
    have lfs : fs.length ≤ 6 := by rw [pr.length_eq]; exact C.few
    refine ⟨q1, z1, fs, rfl, .inl (.inl e1), h1.dp, by omega, asc.nd, fun l ys qs H2 s2 e2 h2 mem len ord => ⟨l, rfl, ⟨_, .inl (.inl e2)⟩, fun D nD => ?_⟩⟩
    have s12 := s1.trans s2
    have ly : ys.length = qs.length := by rw [dsLen h2, List.length_map]
    refine lc_sel (walk_list (K := K) (a := l) (xs := ys)) (ys.zip qs) (fun c => if lawP g p c.2 = true then some c.1 else none) nD (by rw [List.length_zip]; omega) (by omega) (fun G s => .inl (.inl (s _ _ e2))) ?_ ?_
    · intro j x c G N Y hx hc sm no yes
      have hz := List.getElem?_zip_eq_some.mp hc
      obtain rfl : c.1 = x := Option.some.inj (hz.1.symm.trans hx)
      obtain ⟨dd, hdd, dp⟩ := dsAt h2 j c.1 hx
      obtain ⟨ps, hps, rfl⟩ := map_get hdd
      obtain rfl : ps = c.2 := Option.some.inj (hps.symm.trans hz.2)
      obtain ⟨pp, zs, ep, hT, hds, _⟩ := tupD (dKeep sm dp)
      have sub := (mem c.2).mp (List.mem_of_getElem? hps)
      have lp := sub.length_le
      have sA := s12.trans sm
      refine ⟨rfl, w0, rfl, .int p, rfl, c.1, rfl, ?_⟩
      rw [ep]
      refine ⟨w0, pp, g, p, zs, c.2, rfl, pg.same sA, gw, by omega, hT, hds, by omega, fun s hs => ?_, fun G' s' => ⟨_, rfl, ?_⟩⟩
      · have z := (found_good gw (p := p)).all s (pr.mem_iff.mp (sub.subset hs))
        exact ⟨z.1, by have := z.2.2; omega⟩
      · cases z : lawP g p c.2
        · rw [z] at no
          exact iteF (no G' s' rfl)
        · rw [z] at yes
          refine iteT ⟨.ref pp, rfl, ?_⟩
          rw [← ep]
          exact yes c.1 G' s' rfl
    · intro G s3 eD
      rw [fm_if] at eD
      refine q D _ (qs.filter (lawP g p)) fs G (s12.trans s3) eD ?_ pr asc (fun x => ?_) (Nat.le_trans (List.length_filter_le _ _) len) ⟨ord.1.sublist (List.filter_sublist ..), ord.2.sublist (List.filter_sublist ..)⟩
      · exact tups_filt (k := lawP g p) (show TupsAt K G ys qs from dsKeep s3 h2)
      · rw [List.mem_filter, mem x]
end
end Kn


namespace Kn
open PySem PySem.Spec PyProof.Rows L2
/-! ### pairs in order -/
theorem asc_sub : ∀ {fs xs : List (Str × Int)}, Asc xs → Asc fs → (∀ s ∈ xs, s ∈ fs) → xs.Sublist fs
  | _, [], _, _, _ => List.nil_sublist _
  | [], x :: xs, _, _, h => by cases h x (List.mem_cons_self ..)
  | f :: r, x :: xs, a, b, h => by
    have a' := List.pairwise_cons.mp a
    have b' := List.pairwise_cons.mp b
    by_cases e : x = f
    · subst e
      refine List.Sublist.cons_cons _ (asc_sub a'.2 b'.2 fun s hs => ?_)
      rcases List.mem_cons.mp (h s (List.mem_cons_of_mem _ hs)) with e | m
      · subst e
        exact (asc_irr (a'.1 s hs) (a'.1 s hs)).elim
      · exact m
    · have xr : x ∈ r := (List.mem_cons.mp (h x (List.mem_cons_self ..))).resolve_left e
      refine List.Sublist.cons _ (asc_sub a b'.2 fun s hs => ?_)
      rcases List.mem_cons.mp (h s hs) with e2 | m
      · subst e2
        rcases List.mem_cons.mp hs with e3 | m
        · exact absurd e3.symm e
        · exact (asc_irr (a'.1 s m) (b'.1 x xr)).elim
      · exact m
/-! ### plans -/
structure LotAt (g : Pg) (p : Int) (x : List (Str × Int)) : Prop where
  pt : PtOk g x
  yes : planD g p (.tuple (x.map dPr)) = true
  led : LedF g p x
  sub : ∀ s ∈ x, s ∈ foundP g p
theorem law_led {g : Pg} {p : Int} {x : List (Str × Int)} (l : lawP g p x = true) : LedF g p x := by
  unfold lawP at l
  cases zc : canB g g.asks p
  · rw [zc, if_neg Bool.false_ne_true] at l
    rw [of_decide_eq_true l]
    exact ⟨fun s hs => (by cases hs), fun z => by rw [zc] at z; cases z⟩
  · rw [zc, if_pos rfl, Bool.and_eq_true] at l
    refine ⟨fun s hs => ?_, fun _ => of_decide_eq_true l.1⟩
    have z := List.all_eq_true.mp l.2 s hs
    rw [Bool.or_eq_true] at z
    exact z.imp of_decide_eq_true of_decide_eq_true
theorem led_law {g : Pg} (G : GW g) {p : Int} {x : List (Str × Int)} (l : LedF g p x) (sub : ∀ s ∈ x, s ∈ foundP g p) : lawP g p x = true := by
  have fg := found_good G (p := p)
  have lp : ledP g (g.asks, p) x = true := List.all_eq_true.mpr fun s hs => by
    rcases l.led s hs with z | z
    · rw [decide_eq_true z]
      rfl
    · rw [decide_eq_true z, Bool.or_true]
  unfold lawP
  cases zc : canB g g.asks p
  · rw [if_neg Bool.false_ne_true]
    exact decide_eq_true (no_ask G zc (fun s hs => (fg.all s (sub s hs)).2.1) (fun s hs => (fg.all s (sub s hs)).2.2.2) lp)
  · rw [if_pos rfl, decide_eq_true (l.first zc), lp]
    rfl
theorem lot_at {g : Pg} {p : Int} (C : CaseOk g p) {x : List (Str × Int)} (asc : Asc x) (sub : ∀ s ∈ x, s ∈ foundP g p) (l : lawP g p x = true) : LotAt g p x := by
  have G := C.gw
  have fg := found_good G (p := p)
  have p6 := C.p6
  have few := nodup_sub asc.nd sub
  have cf := C.few
  have okp : ∀ s ∈ x, okP g s := fun s hs => ⟨(fg.all s (sub s hs)).1, by have := (fg.all s (sub s hs)).2.2; omega⟩
  have pt : PtOk g x := ⟨by omega, asc, okp⟩
  refine ⟨pt, ?_, law_led l, sub⟩
  rw [plan_law G ⟨pt, fun s hs => ⟨(fg.all s (sub s hs)).2.2.1, fun _ => (fg.all s (sub s hs)).2.2.2⟩⟩, l, Bool.and_true]
  exact List.all_eq_true.mpr fun s hs => (fg.all s (sub s hs)).2.1
/-- two plans together -/
theorem lot_join {g : Pg} {p : Int} (C : CaseOk g p) {x y r : List (Str × Int)} (a : LotAt g p x) (b : LotAt g p y) (asc : Asc r) (mem : ∀ s, s ∈ r ↔ s ∈ x ++ y) : LotAt g p r ∧ lawP g p r = true := by
  have sub : ∀ s ∈ r, s ∈ foundP g p := fun s hs => (List.mem_append.mp ((mem s).mp hs)).elim (a.sub s) (b.sub s)
  have inx : ∀ s ∈ x, s ∈ r := fun s hs => (mem s).mpr (List.mem_append_left _ hs)
  have iny : ∀ s ∈ y, s ∈ r := fun s hs => (mem s).mpr (List.mem_append_right _ hs)
  have l : lawP g p r = true := led_law C.gw ⟨fun s hs => by
    rcases List.mem_append.mp ((mem s).mp hs) with h | h
    · exact (a.led.led s h).imp id fun z => lv_mono inx z
    · exact (b.led.led s h).imp id fun z => lv_mono iny z, fun z => inx _ (a.led.first z)⟩ sub
  exact ⟨lot_at C asc sub l, l⟩
theorem whole_law {g : Pg} {p : Int} (C : CaseOk g p) {fs : List (Str × Int)} (pr : fs.Perm (foundP g p)) : lawP g p fs = true :=
  led_law C.gw ((led_found g p).of fun s => pr.mem_iff) fun s hs => pr.mem_iff.mp hs
end Kn


namespace Kn
open PySem PySem.Spec PyProof.Rows L2
/-! ### one web and another with the same rows -/
def RowSame : Option Ent → Option Ent → Prop
  | none, none => True
  | some e, some e' => e.fee = e'.fee ∧ e.has = e'.has ∧ ∀ s, s ∈ e.row ↔ s ∈ e'.row
  | _, _ => False
structure SameW (g g' : Pg) : Prop where
  asks : g.asks = g'.asks
  rows : ∀ n, RowSame (rowOf g n) (rowOf g' n)
theorem same_can {g g' : Pg} (h : SameW g g') (n : Str) (m : Int) : canB g n m = canB g' n m ∧ (rowOf g n).isSome = (rowOf g' n).isSome := by
  have z := h.rows n
  unfold canB
  match rowOf g n, rowOf g' n, z with
  | none, none, _ => exact ⟨rfl, rfl⟩
  | some e, some e', z =>
    obtain ⟨a, b, _⟩ := z
    dsimp only
    rw [a, b]
    exact ⟨rfl, rfl⟩
theorem same_left {g g' : Pg} (h : SameW g g') (s t : Str × Int) : t ∈ lvOf g s ↔ t ∈ lvOf g' s := by
  have z := h.rows s.1
  unfold lvOf
  match rowOf g s.1, rowOf g' s.1, z with
  | none, none, _ => exact Iff.rfl
  | some e, some e', z =>
    obtain ⟨a, b, c⟩ := z
    dsimp only
    rw [a]
    constructor
    · intro h
      obtain ⟨k, hk, rfl⟩ := List.mem_map.mp h
      exact List.mem_map.mpr ⟨k, (c k).mp hk, rfl⟩
    · intro h
      obtain ⟨k, hk, rfl⟩ := List.mem_map.mp h
      exact List.mem_map.mpr ⟨k, (c k).mpr hk, rfl⟩
theorem same_vp {g g' : Pg} (h : SameW g g') (p : Int) (d : PyData) : vpB g p d = vpB g' p d := by
  unfold vpB
  split
  · rename_i n m
    obtain ⟨a, b⟩ := same_can h n m
    rw [a, b]
  · rfl
theorem same_plan {g g' : Pg} (h : SameW g g') (p : Int) (d : PyData) : planD g p d = planD g' p d := by
  cases d with
  | tuple ds =>
    have e1 : goodAt g p ds = goodAt g' p ds := by
      funext k
      unfold goodAt
      rw [same_vp h]
    have e2 : ∀ ps, ledP g (g.asks, p) ps = ledP g' (g'.asks, p) ps := fun ps => by
      unfold ledP
      rw [h.asks]
      refine List.all_congr rfl fun s => ?_
      congr 1
      refine decide_eq_decide.mpr ?_
      unfold lv
      rw [List.mem_flatMap, List.mem_flatMap]
      exact ⟨fun ⟨x, a, b⟩ => ⟨x, a, (same_left h x s).mp b⟩, fun ⟨x, a, b⟩ => ⟨x, a, (same_left h x s).mpr b⟩⟩
    have e3 : ∀ ps, firstP g p ps = firstP g' p ps := fun ps => by
      unfold firstP
      rw [h.asks, (same_can h g'.asks p).1]
    show ((List.range ds.length).all (goodAt g p ds) && (ledP g (g.asks, p) _ && firstP g p _)) = ((List.range ds.length).all (goodAt g' p ds) && (ledP g' (g'.asks, p) _ && firstP g' p _))
    rw [e1, e2, e3]
  | _ => rfl
def entOf (nm : List Str) (x : Str) : Ent := match x.cps.toList with
  | a :: c :: rest => ⟨nmAt nm a, (c : Int) - 48, decide (42 ∈ x.cps.toList), rowW nm rest⟩
  | _ => ⟨"", 1, false, []⟩
def webOf (nm ws : List Str) : Pg := ⟨ws.map (entOf nm), nm.getD 0 ""⟩
theorem web_named {nm ws : List Str} (W : WsOk ws) : NamedG (webOf nm ws) ws nm := by
  refine ⟨rfl, ws.map (entOf nm), List.Perm.refl _, List.length_map _, fun j x hx => ⟨entOf nm x, by rw [List.getElem?_map, hx]; rfl, ?_⟩⟩
  obtain ⟨a, c, rest, hc, _⟩ := word_is (W.each x (List.mem_of_getElem? hx))
  have e : entOf nm x = ⟨nmAt nm a, (c : Int) - 48, decide (42 ∈ x.cps.toList), rowW nm rest⟩ := by
    unfold entOf
    rw [hc]
  rw [e]
  exact ⟨a, c, rest, hc, rfl, rfl, rfl, List.Perm.refl _⟩
theorem named_same {g : Pg} {ws nm : List Str} (W : WsOk ws) (N : NmOk nm) (h : NamedG g ws nm) : SameW g (webOf nm ws) := by
  have G := named_good W N h
  have G0 := named_good W N (web_named (nm := nm) W)
  obtain ⟨es1, pm, le, each⟩ := h.rows
  have pair : ∀ j, (hj : j < ws.length) → ∃ e, es1[j]? = some e ∧ e.name = (entOf nm (ws[j]'hj)).name ∧ e.fee = (entOf nm (ws[j]'hj)).fee ∧ e.has = (entOf nm (ws[j]'hj)).has ∧ ∀ s, s ∈ e.row ↔ s ∈ (entOf nm (ws[j]'hj)).row := fun j hj => by
    have hx : ws[j]? = some (ws[j]'hj) := List.getElem?_eq_getElem hj
    obtain ⟨e, he, E⟩ := each j _ hx
    obtain ⟨a, c, rest, hc, n, f, hs, r⟩ := E.ex
    have ee : entOf nm (ws[j]'hj) = ⟨nmAt nm a, (c : Int) - 48, decide (42 ∈ (ws[j]'hj).cps.toList), rowW nm rest⟩ := by
      unfold entOf
      rw [hc]
    rw [ee]
    exact ⟨e, he, n, f, hs, fun s => r.mem_iff⟩
  refine ⟨h.asks, fun n => ?_⟩
  have toward : ∀ e, rowOf g n = some e → ∃ e0, rowOf (webOf nm ws) n = some e0 ∧ RowSame (some e) (some e0) := fun e he => by
    obtain ⟨em, en⟩ := row_is he
    obtain ⟨j, hj, ej⟩ := List.mem_iff_getElem.mp (pm.mem_iff.mp em)
    obtain ⟨e', he', n', f', h', r'⟩ := pair j (by omega)
    rw [List.getElem?_eq_getElem hj, ej] at he'
    cases he'
    have m0 : entOf nm (ws[j]'(by omega)) ∈ (webOf nm ws).es := List.mem_map.mpr ⟨_, List.getElem_mem _, rfl⟩
    have z := row_self G0 m0
    rw [← n', en] at z
    exact ⟨_, z, f', h', r'⟩
  have back : ∀ e0, rowOf (webOf nm ws) n = some e0 → ∃ e, rowOf g n = some e := fun e0 he => by
    obtain ⟨em, en⟩ := row_is he
    obtain ⟨x, hx, rfl⟩ := List.mem_map.mp em
    obtain ⟨j, hj, rfl⟩ := List.mem_iff_getElem.mp hx
    obtain ⟨e', he', n', _⟩ := pair j hj
    have z := row_self G (pm.mem_iff.mpr (List.mem_of_getElem? he'))
    rw [n', en] at z
    exact ⟨e', z⟩
  cases z : rowOf g n with
  | some e =>
    obtain ⟨e0, he0, r⟩ := toward e z
    rw [he0]
    exact r
  | none =>
    cases z0 : rowOf (webOf nm ws) n with
    | none => trivial
    | some e0 =>
      obtain ⟨e, he⟩ := back e0 z0
      rw [he] at z
      cases z
/-! ### by hand -/
def abcd : List Str := ["a", "b", "c", "d"]
theorem abcd_ok : abcd.length = 4 ∧ abcd.Nodup ∧ ∀ x ∈ abcd, nameB (.str x) = true := by decide +kernel
theorem abcd_nm : NmOk abcd := ⟨abcd_ok.1, abcd_ok.2.1, abcd_ok.2.2⟩
section
variable {K : PySem.W.Frag}
theorem mk_pr {σ : L2.St} {H0 : Hp} {s : Str} {n : Int} : Mk K σ H0 (tTup (tCons (tC (.str s)) (tCons (tC (.int n)) tNil))) (dPr (s, n)) := mk_tup (Nat.le_of_ble_eq_true rfl) (mks_cons mk_str (mks_cons mk_int mks_nil))
end
end Kn


namespace Kn
open PySem PySem.Spec PyProof.Rows L2
abbrev nLc2 : List Str := ["_law_book", "_law_some", "_law_calm", "_law_own", "_law_name"]
theorem scLc2 : FnScope nLc2 ["_law_book", "_law_some"] (defScope (topS 58)) := ⟨rfl, rfl, rfl, by decide +kernel, rfl, by decide +kernel, by decide +kernel⟩
abbrev nLf : List Str := ["_law_book", "_law_many", "_law_some", "_law_counts", "_law_j", "_law_is_loud", "_law_row"]
abbrev nRt : List Str := ["_law_book", "_law_power", "_law_some", "_law_many", "_law_kept", "_law_due", "_law_told"]
def closedB (g : Pg) (ps : List (Str × Int)) : Bool := (openI g ps).isNone
theorem dp_strs {K : PySem.W.Frag} {H : Hp} : ∀ xs : List Str, DpAll K H (xs.map V.str) (xs.map PyData.str)
  | [] => .nil
  | x :: r => .cons (.str x) (dp_strs r)
theorem web_nm {g : Pg} (G : GW g) {n : Str} (h : (rowOf g n).isSome = true) : nameB (.str n) = true := by
  obtain ⟨e, he⟩ := Option.isSome_iff_exists.mp h
  obtain ⟨em, en⟩ := row_is he
  exact en ▸ G.nm e em
theorem cv {Q : VK} {v v' : V} {H : Hp} (h : Q v H) (e : v = v') : Q v' H := e ▸ h
theorem open_none {g : Pg} {ps : List (Str × Int)} : ∀ {l : List Str} {i : Nat}, (openFrom g ps l i).isNone = l.all fun n => !openB g ps n
  | [], _ => rfl
  | n :: r, i => by
    show (if openB g ps n then some i else openFrom g ps r (i + 1)).isNone = (!openB g ps n && r.all fun n => !openB g ps n)
    cases openB g ps n
    · exact open_none (l := r)
    · rfl
theorem closed_law {g : Pg} (G : GW g) (ps : List (Str × Int)) : (((nearL g ps).filter fun n => !decide (n ∈ quietL g ps) && !decide (n ∈ kindsL ps)).map PyData.str).isEmpty = closedB g ps := by
  unfold closedB openI
  rw [open_none, Bool.eq_iff_iff]
  have e1 : (((nearL g ps).filter fun n => !decide (n ∈ quietL g ps) && !decide (n ∈ kindsL ps)).map PyData.str).isEmpty = true ↔ ∀ n ∈ nearL g ps, ¬ (!decide (n ∈ quietL g ps) && !decide (n ∈ kindsL ps)) = true := by
    rw [List.isEmpty_iff, List.map_eq_nil_iff, List.filter_eq_nil_iff]
  rw [e1, List.all_eq_true]
  constructor
  · intro h n hn
    unfold openB
    by_cases m : n ∈ nearL g ps
    · rw [Bool.eq_false_iff.mpr (h n m), Bool.and_false]
      rfl
    · rw [decide_eq_false m, Bool.false_and]
      rfl
  · intro h n hn z
    have hm : n ∈ g.es.map (·.name) := by
      obtain ⟨t, ht, rfl⟩ := List.mem_map.mp (mem_ascS.mp hn)
      exact mem_rows.mpr (lv_all G ht)
    have y := h n hm
    unfold openB at y
    rw [decide_eq_true hn, z] at y
    cases y
def fewL (us ms : List Int) (j : Nat) : Bool := decide (us.getD j 0 > ms.getD j 0)
theorem stores_law {us ms : List Int} (h : us.length = ms.length) : (((List.range ms.length).filter (fewL us ms)).map fun j => PyData.int (j : Nat)).isEmpty = ((us.zip ms).all fun p => decide (p.1 ≤ p.2)) := by
  rw [Bool.eq_iff_iff, List.isEmpty_iff, List.map_eq_nil_iff, List.filter_eq_nil_iff, List.all_eq_true]
  constructor
  · intro k p hp
    obtain ⟨j, hj, rfl⟩ := List.mem_iff_getElem.mp hp
    rw [List.length_zip] at hj
    have y := k j (List.mem_range.mpr (by omega))
    unfold fewL at y
    rw [List.getD_eq_getElem?_getD, List.getD_eq_getElem?_getD, List.getElem?_eq_getElem (by omega), List.getElem?_eq_getElem (by omega)] at y
    rw [List.getElem_zip]
    have y : ¬ us[j]'(by omega) > ms[j]'(by omega) := fun z => y (decide_eq_true z)
    exact decide_eq_true (by omega)
  · intro k j hj z
    have hj := List.mem_range.mp hj
    unfold fewL at z
    rw [List.getD_eq_getElem?_getD, List.getD_eq_getElem?_getD, List.getElem?_eq_getElem (by omega), List.getElem?_eq_getElem (by omega)] at z
    have z : us[j]'(by omega) > ms[j]'(by omega) := of_decide_eq_true z
    have y := of_decide_eq_true (k (us[j]'(by omega), ms[j]'(by omega)) (List.mem_iff_getElem.mpr ⟨j, by rw [List.length_zip]; omega, by rw [List.getElem_zip]⟩))
    have y : us[j]'(by omega) ≤ ms[j]'(by omega) := y
    omega
def spLcl (K : PySem.W.Frag) : Sp := fun vs H Q _ => ∃ (w : V) (q : Addr) (g : Pg) (xs : List V) (ps : List (Str × Int)), vs = [w, .ref q] ∧ PgAt K H w g ∧ GW g ∧ SqT K H q xs ∧ DpAll K H xs (ps.map dPr) ∧ ps.length ≤ 12 ∧ (∀ s ∈ ps, okP g s) ∧ ∀ H', Same H H' → Q (.bl (closedB g ps)) H'
section
variable {P : Program} {w : World} {K : PySem.W.Frag} {mg : Str → Option Value} {base : Heap}
theorem ok_lcl {f f1 f2 f3 : Addr} {fd d1 d2 d3 : FuncData} (F : Fun K "_law_is_closed" "_law_is_closed" (topS 58) f fd)
    (Wq : Def K mg "_law_quiet" 56 ["_law_book", "_law_some"] f1 d1) (OWq : FnOk P w K mg base CX0 4 f1 d1 ["_law_book", "_law_some"] (spIn K outQ))
    (Wk : Def K mg "_law_kinds" 57 ["_law_some"] f2 d2) (OWk : FnOk P w K mg base CX0 1 f2 d2 ["_law_some"] (spKi K))
    (Wn : Def K mg "_law_near" 55 ["_law_book", "_law_some"] f3 d3) (OWn : FnOk P w K mg base CX0 3 f3 d3 ["_law_book", "_law_some"] (spIn K outN)) : FnOk P w K mg base CX0 5 f fd ["_law_book", "_law_some"] (spLcl K) := by
  refine F.ok scLc2 (fun vs H Q E h => ?_) (fun cdv A outer s H vs Q E hr h => ?_)
  · obtain ⟨w0, q0, g, xs, ps, rfl, _⟩ := h
    rfl
  · obtain ⟨w0, q0, g, xs, ps, rfl, pg, gw, hT, hd, few, okp, q⟩ := h
    refine ⟨_, (pss_cons (ps_asg (pe_tup (pa_cons (pe_call OWq (hr.mono (by decide)) (by rfl) Wq.m Wq.F.kp Wq.b .nil pass0 (pa_cons (pv 0) (pa_cons (pv 1) pa_nil))) (pa_cons (pe_call OWk (hr.mono (by decide)) (by rfl) Wk.m Wk.F.kp Wk.b .nil pass0 (pa_cons (pv 1) pa_nil)) pa_nil))) (pg_tup (by rfl) (pgs_cons (pg_name (i := 2) scLc2.nd rfl (.inr rfl)) (pgs_cons (pg_name (i := 3) scLc2.nd rfl (.inr rfl)) pgs_nil))))
      (pss_one (ps_ret (pe_cmpR (op_eqD hr.units) (pe_lc (own := [("_law_name", 4)]) (g := gName 4) (by rfl) scLc2.nd (pi_tup (pe_call OWn (hr.mono (by decide)) (by rfl) Wn.m Wn.F.kp Wn.b .nil pass0 (pa_cons (pv 0) (pa_cons (pv 1) pa_nil)))) (blkOk_by (own := [("_law_name", 4)]) (N := nLc2) (sc := defScope (topS 58)) (by decide +kernel)) (fun _ _ _ _ _ => (pg_name (i := 4) scLc2.nd rfl (Or.inl rfl))) (fun _ _ _ _ _ => (pts_one (PW.pt (pw_and (pt_cmpR (r := rIn K true) op_notIn_seq (pv 4) (pv 2) (by rfl)) (pw_and1 (pt_cmpR (r := rIn K true) op_notIn_seq (pv 4) (pv 3) (by rfl))))))) (fun _ _ _ _ _ => (pv 4))) (pe_lst pa_nil) (nomark _))))), ?_⟩
    refine asg_seq ⟨w0, rfl, .ref q0, rfl, ⟨w0, q0, g, xs, ps, rfl, pg, gw, hT, hd, few, okp, fun pq H1 s1 e1 => ?_⟩⟩
    refine ⟨.ref q0, rfl, q0, xs, ps, rfl, tupS s1 hT, dsKeep s1 hd, few, fun pk H2 s2 e2 => ⟨(show 2 ≤ sizeLine by decide), fun t nt => ⟨t, _, rfl, .inl (.inl upd_same), rfl, _, _, rfl, _, _, rfl, rfl, ?_⟩⟩⟩
    have st := same_new (o := .tup [.ref pq, .ref pk]) nt
    have g1 := st _ _ (s2 _ _ e1)
    have g2 := st _ _ e2
    have s13 := (s1.trans s2).trans st
    generalize upd H2 t (.tup [.ref pq, .ref pk]) = H3 at g1 g2 s13 ⊢
    dsimp only [gName]
    refine ⟨w0, rfl, .ref q0, rfl, ⟨w0, q0, g, xs, ps, rfl, pg.same s13, gw, tupS s13 hT, dsKeep s13 hd, few, okp, fun pn H4 s4 e4 => ⟨pn, rfl, ⟨_, .inl (.inl e4)⟩, fun D nD => ?_⟩⟩⟩
    have h1 := s4 _ _ g1
    have h2 := s4 _ _ g2
    have ll := lv_len gw ps
    have ln : (nearL g ps).length ≤ 60 := by
      have := ascS_len ((lv g ps).map (·.1))
      rw [List.length_map] at this
      show (ascS _).length ≤ 60
      omega
    refine lc_sel (walk_tup (K := K) (a := pn) (xs := outN g ps)) (nearL g ps) (fun n => if !decide (n ∈ quietL g ps) && !decide (n ∈ kindsL ps) then some (.str n) else none) nD (List.length_map _).symm (by rw [List.length_map]; omega) (fun G s => .inl (.inl (s _ _ e4))) ?_ ?_
    · intro i x n G N Y hx hn sm no yes
      obtain ⟨n', hn', rfl⟩ := map_get hx
      obtain rfl : n = n' := Option.some.inj (hn.symm.trans hn')
      refine ⟨rfl, ?_⟩
      refine ⟨.str n, rfl, .ref pq, rfl, in_txt (.inl (.inl (sm _ _ h1))) ⟨_, rfl, ?_⟩⟩
      cases z1 : decide (n ∈ quietL g ps)
      · refine iteT ⟨.str n, rfl, .ref pk, rfl, in_txt (.inl (.inl (sm _ _ h2))) ⟨_, rfl, ?_⟩⟩
        cases z2 : decide (n ∈ kindsL ps)
        · exact iteT ⟨_, rfl, yes _ G (Same.refl G) (by rw [z1, z2]; rfl)⟩
        · exact iteF (no G (Same.refl G) (by rw [z1, z2]; rfl))
      · exact iteF (iteF (no G (Same.refl G) (by rw [z1]; rfl)))
    · intro G sm eD
      have el : (nearL g ps).filterMap (fun n => if !decide (n ∈ quietL g ps) && !decide (n ∈ kindsL ps) then some (V.str n) else none) = ((nearL g ps).filter fun n => !decide (n ∈ quietL g ps) && !decide (n ∈ kindsL ps)).map V.str := by
        generalize nearL g ps = l
        induction l with
        | nil => rfl
        | cons n r ih =>
          rw [List.filterMap_cons, List.filter_cons, ih]
          cases (!decide (n ∈ quietL g ps) && !decide (n ∈ kindsL ps)) <;> rfl
      rw [el] at eD
      refine ⟨(show 0 ≤ sizeLine by decide), fun z nz => ?_⟩
      have sz := same_new (o := .lst []) nz
      have nm : ∀ x ∈ (nearL g ps).filter fun n => !decide (n ∈ quietL g ps) && !decide (n ∈ kindsL ps), nameB (.str x) = true := fun x hx => by
        obtain ⟨t, ht, rfl⟩ := List.mem_map.mp (mem_ascS.mp (List.mem_filter.mp hx).1)
        exact web_nm gw (lv_all gw ht)
      refine ⟨.list (((nearL g ps).filter fun n => !decide (n ∈ quietL g ps) && !decide (n ∈ kindsL ps)).map PyData.str), .list [], dp_lst (sz _ _ eD) (dp_strs _), dp_lst upd_same .nil, good_shaped (strs_good nm).1 (by have := strs_flat0 ((nearL g ps).filter fun n => !decide (n ∈ quietL g ps) && !decide (n ∈ kindsL ps)); have z : (PyData.list (((nearL g ps).filter fun n => !decide (n ∈ quietL g ps) && !decide (n ∈ kindsL ps)).map PyData.str)).depth = PyData.depthAll (((nearL g ps).filter fun n => !decide (n ∈ quietL g ps) && !decide (n ∈ kindsL ps)).map PyData.str) + 1 := rfl; omega), rfl, ?_⟩
      rw [eqv_nil2, closed_law gw]
      exact q _ ((s13.trans s4).trans (sm.trans sz))
end
end Kn


namespace Kn
open PySem PySem.Spec PyProof.Rows L2
/-! ### one web and another with the same rows: their closed plans -/
theorem lv_same {g g' : Pg} (h : SameW g g') (ps : List (Str × Int)) (t : Str × Int) : t ∈ lv g ps ↔ t ∈ lv g' ps := by
  unfold lv
  rw [List.mem_flatMap, List.mem_flatMap]
  exact ⟨fun ⟨x, a, b⟩ => ⟨x, a, (same_left h x t).mp b⟩, fun ⟨x, a, b⟩ => ⟨x, a, (same_left h x t).mpr b⟩⟩
theorem found_half {g g' : Pg} (sw : SameW g g') (G : GW g) (G' : GW g') {p : Int} (p6 : p ≤ 6) : ∀ s ∈ foundP g p, s ∈ foundP g' p := fun s hs => by
  have fg := found_good G (p := p)
  have l := led_found g p
  refine led_sub G' p6 (ps := foundP g p) (fun t ht => ?_) (fun t ht => ?_) _ s hs (Nat.le_refl _)
  · rw [← (same_can sw t.1 t.2).1]
    exact ⟨(fg.all t ht).2.1, (fg.all t ht).2.2.2⟩
  · rw [← sw.asks]
    exact (l.led t ht).imp id fun z => (lv_same sw _ t).mp z
theorem SameW.symm {g g' : Pg} (h : SameW g g') : SameW g' g := ⟨h.asks.symm, fun n => by
  have z := h.rows n
  match rowOf g n, rowOf g' n, z with
  | none, none, _ => trivial
  | some e, some e', z => exact ⟨z.1.symm, z.2.1.symm, fun s => (z.2.2 s).symm⟩⟩
theorem led_same {g g' : Pg} (sw : SameW g g') {p : Int} {X : List (Str × Int)} (h : LedF g p X) : LedF g' p X := by
  refine ⟨fun s hs => ?_, fun c => ?_⟩
  · rw [← sw.asks]
    exact (h.led s hs).imp id fun z => (lv_same sw _ _).mp z
  · rw [← sw.asks] at c ⊢
    exact h.first (by rw [(same_can sw _ _).1]; exact c)
theorem openI_iff {g : Pg} (G : GW g) {X : List (Str × Int)} : openI g X = none ↔ ∀ n, openB g X n = false := by
  have e : (openI g X).isNone = (g.es.map (·.name)).all fun n => !openB g X n := open_none
  constructor
  · intro h n
    by_cases m : n ∈ nearL g X
    · have hm : n ∈ g.es.map (·.name) := by
        obtain ⟨t, ht, rfl⟩ := List.mem_map.mp (mem_ascS.mp m)
        exact mem_rows.mpr (lv_all G ht)
      rw [h] at e
      have z := List.all_eq_true.mp e.symm n hm
      simpa using z
    · unfold openB
      rw [decide_eq_false m, Bool.false_and]
  · intro h
    have z : ((g.es.map (·.name)).all fun n => !openB g X n) = true := List.all_eq_true.mpr fun n _ => by rw [h n]; rfl
    rw [z] at e
    simpa using e
theorem openB_same {g g' : Pg} (sw : SameW g g') (X : List (Str × Int)) (n : Str) : openB g X n = openB g' X n := by
  have e1 : (n ∈ nearL g X) = (n ∈ nearL g' X) := by
    unfold nearL
    rw [mem_ascS, mem_ascS, List.mem_map, List.mem_map]
    simp only [lv_same sw]
  have e2 : (n ∈ quietL g X) = (n ∈ quietL g' X) := by
    unfold quietL
    rw [mem_ascS, mem_ascS, List.mem_map, List.mem_map]
    simp only [List.mem_filter, lv_same sw, (same_can sw _ _).1]
  unfold openB
  simp only [e1, e2]
theorem closed_half {g g' : Pg} (sw : SameW g g') (G : GW g) (G' : GW g') {p : Int} (p6 : p ≤ 6) {X : List (Str × Int)} (h : ClosedX g p X) : ClosedX g' p X :=
  ⟨h.asc, fun s hs => found_half sw G G' p6 s (h.sub s hs), led_same sw h.led, (openI_iff G').mpr fun n => by
    rw [← openB_same sw]
    exact (openI_iff G).mp h.cl n⟩
theorem closed_same {g g' : Pg} (sw : SameW g g') (G : GW g) (G' : GW g') {p : Int} (p6 : p ≤ 6) {X : List (Str × Int)} : ClosedX g p X ↔ ClosedX g' p X := ⟨closed_half sw G G' p6, closed_half sw.symm G' G p6⟩
/-! ### no plan is made twice -/
def Diff (ps : List (List (Str × Int))) : Prop := ps.Pairwise fun y z => ¬ ∀ s, s ∈ y ↔ s ∈ z
theorem lead_ask {g : Pg} (G : GW g) {p : Int} {fs : List (Str × Int)} (mem : ∀ s, s ∈ fs ↔ s ∈ foundP g p) : leadersC g fs (g.asks, p) = [] := by
  unfold leadersC
  rw [List.filter_eq_nil_iff]
  intro o ho z
  have a := (lv_known G (of_decide_eq_true z)).2
  have b := ((found_good G (p := p)).all o ((mem o).mp ho)).2.2.2
  have a : p < o.2 := a
  omega
theorem step_ask {g : Pg} (G : GW g) {p : Int} {fs : List (Str × Int)} (mem : ∀ s, s ∈ fs ↔ s ∈ foundP g p) (ps : List (List (Str × Int))) : stepC g fs (g.asks, p) ps = ps := by
  unfold stepC
  rw [lead_ask G mem]
  have e : (ps.filter fun y => ([] : List (Str × Int)).any fun o => decide (o ∈ y)) = [] := by
    rw [List.filter_eq_nil_iff]
    exact fun y _ z => by cases z
  rw [e, List.map_nil, List.append_nil]
theorem step_diff {g : Pg} (G : GW g) {p : Int} {fs dn : List (Str × Int)} {ps : List (List (Str × Int))} {t : Str × Int} (mem : ∀ s, s ∈ fs ↔ s ∈ foundP g p) (h : SoundC g p fs dn ps) (tn : t ∉ dn) (d : Diff ps) : Diff (stepC g fs t ps) := by
  by_cases e : t = (g.asks, p)
  · rw [e, step_ask G mem]
    exact d
  · have no : ∀ y ∈ ps, t ∉ y := fun y hy m => (h.sub y hy t m).2.elim e tn
    unfold stepC
    refine List.pairwise_append.mpr ⟨d, ?_, fun y hy z hz k => ?_⟩
    · refine List.pairwise_map.mpr ((d.sublist (List.filter_sublist ..)).imp_of_mem fun {y z} hy hz k q => k fun s => ?_)
      have hy := no y (List.mem_filter.mp hy).1
      have hz := no z (List.mem_filter.mp hz).1
      have w := q s
      rw [List.mem_append, List.mem_append, List.mem_singleton] at w
      by_cases es : s = t
      · rw [es]
        exact ⟨fun m => absurd m hy, fun m => absurd m hz⟩
      · exact ⟨fun m => (w.mp (.inl m)).resolve_right es, fun m => (w.mpr (.inl m)).resolve_right es⟩
    · obtain ⟨x, hx, rfl⟩ := List.mem_map.mp hz
      exact no y hy ((k t).mpr (List.mem_append_right _ (List.mem_singleton.mpr rfl)))
theorem plansC_diff {g : Pg} (G : GW g) {p : Int} {fs : List (Str × Int)} (mem : ∀ s, s ∈ fs ↔ s ∈ foundP g p) : ∀ {r dn : List (Str × Int)} {ps : List (List (Str × Int))}, SoundC g p fs dn ps → (dn ++ r).Nodup → (∀ s ∈ fs, s ∈ dn ++ r) → (∀ s ∈ r, s ∈ fs) → r.Pairwise (fun s t => t.2 ≤ s.2) → Diff ps → Diff (plansC g fs r ps)
  | [], _, _, _, _, _, _, _, d => d
  | t :: r, dn, ps, h, nd, ex, inr, pw, d => by
    have pw' := List.pairwise_cons.mp pw
    have tn : t ∉ dn := fun z => (List.nodup_append.mp nd).2.2 t z t (List.mem_cons_self ..) rfl
    have z := h.step G mem nd ex (inr t (List.mem_cons_self ..)) pw'.1
    have dd := step_diff G mem h tn d
    have e : dn ++ t :: r = (dn ++ [t]) ++ r := by rw [List.append_assoc]; rfl
    rw [e] at nd ex
    exact plansC_diff (r := r) (dn := dn ++ [t]) (ps := stepC g fs t ps) G mem z nd ex (fun s hs => inr s (List.mem_cons_of_mem _ hs)) pw'.2 dd
theorem closedC_diff {g : Pg} (G : GW g) {p : Int} {fs r : List (Str × Int)} (mem : ∀ s, s ∈ fs ↔ s ∈ foundP g p) (fall : FallOf fs r) : Diff (closedC g p fs r) := by
  unfold closedC
  refine List.Pairwise.sublist (List.filter_sublist ..) (plansC_diff G mem (SoundC.first mem) (dn := []) (by rw [List.nil_append]; exact fall.1) (fun s hs => by rw [List.nil_append]; exact (fall.2.1 s).mpr hs) (fun s hs => (fall.2.1 s).mp hs) fall.2.2 ?_)
  exact List.pairwise_singleton _ _
/-- the closed plans as lists in order, each once -/
def closedL (g : Pg) (p : Int) (ws fs r : List (Str × Int)) : List (List (Str × Int)) := (closedC g p fs r).map fun y => ws.filter fun s => decide (s ∈ y)
theorem closedL_ok {g : Pg} (G : GW g) {p : Int} {ws fs r : List (Str × Int)} (aw : Asc ws) (mw : ∀ s, s ∈ ws ↔ s ∈ foundP g p) (mem : ∀ s, s ∈ fs ↔ s ∈ foundP g p) (fall : FallOf fs r) : (closedL g p ws fs r).Nodup ∧ ∀ X, X ∈ closedL g p ws fs r ↔ ClosedX g p X := by
  obtain ⟨al, ex⟩ := plansC_all G mem fall.1 fall.2.1 fall.2.2
  have same : ∀ y ∈ closedC g p fs r, ∀ s, s ∈ (ws.filter fun s => decide (s ∈ y)) ↔ s ∈ y := fun y hy s => by
    have h1 := (List.mem_filter.mp hy).1
    rw [List.mem_filter, decide_eq_true_iff]
    exact ⟨fun m => m.2, fun m => ⟨(mw s).mpr ((al y h1).2.1 s m), m⟩⟩
  refine ⟨?_, fun X => ⟨fun h => ?_, fun h => ?_⟩⟩
  · refine List.pairwise_map.mpr ((closedC_diff G mem fall).imp_of_mem fun {y z} hy hz k e => k fun s => ?_)
    rw [← same y hy s, ← same z hz s, e]
  · obtain ⟨y, hy, rfl⟩ := List.mem_map.mp h
    obtain ⟨h1, h2⟩ := List.mem_filter.mp hy
    obtain ⟨_, s1, l1⟩ := al y h1
    refine ⟨aw.sublist (List.filter_sublist ..), fun s hs => s1 s ((same y hy s).mp hs), l1.of (same y hy), ?_⟩
    rw [openI_same (same y hy)]
    simpa using h2
  · obtain ⟨y, hy, e⟩ := ex X h.sub h.led
    have hf : y ∈ closedC g p fs r := List.mem_filter.mpr ⟨hy, by rw [openI_same e, h.cl]; rfl⟩
    refine List.mem_map.mpr ⟨y, hf, asc_eq (aw.sublist (List.filter_sublist ..)) h.asc fun s => (same y hf s).trans (e s)⟩
theorem closed_count {g g' : Pg} (sw : SameW g g') (G : GW g) (G' : GW g') {p : Int} (p6 : p ≤ 6) {ws fs r fs' r' : List (Str × Int)} (aw : Asc ws) (mw : ∀ s, s ∈ ws ↔ s ∈ foundP g p) (mem : ∀ s, s ∈ fs ↔ s ∈ foundP g p) (fall : FallOf fs r) (mem' : ∀ s, s ∈ fs' ↔ s ∈ foundP g' p) (fall' : FallOf fs' r') :
    (closedC g p fs r).length = (closedC g' p fs' r').length := by
  have mw' : ∀ s, s ∈ ws ↔ s ∈ foundP g' p := fun s => (mw s).trans ⟨found_half sw G G' p6 s, found_half sw.symm G' G p6 s⟩
  obtain ⟨n1, m1⟩ := closedL_ok G aw mw mem fall
  obtain ⟨n2, m2⟩ := closedL_ok G' aw mw' mem' fall'
  have e1 : (closedL g p ws fs r).length = (closedC g p fs r).length := List.length_map _
  have e2 : (closedL g' p ws fs' r').length = (closedC g' p fs' r').length := List.length_map _
  have a := nodup_sub n1 (ys := closedL g' p ws fs' r') fun X h => (m2 X).mpr ((closed_same sw G G' p6).mp ((m1 X).mp h))
  have b := nodup_sub n2 (ys := closedL g p ws fs r) fun X h => (m1 X).mpr ((closed_same sw G G' p6).mpr ((m2 X).mp h))
  omega
/-! ### how many -/
theorem plansC_many {g : Pg} (G : GW g) {p : Int} {fs : List (Str × Int)} (mem : ∀ s, s ∈ fs ↔ s ∈ foundP g p) : ∀ (r : List (Str × Int)) (ps : List (List (Str × Int))), (plansC g fs r ps).length ≤ 2 ^ (r.filter fun t => decide (t ≠ (g.asks, p))).length * ps.length
  | [], ps => by show ps.length ≤ 2 ^ 0 * ps.length; omega
  | t :: r, ps => by
    have ih := plansC_many G mem r (stepC g fs t ps)
    show (plansC g fs r (stepC g fs t ps)).length ≤ _
    rw [List.filter_cons]
    by_cases e : t = (g.asks, p)
    · rw [if_neg (by rw [decide_eq_true_iff]; exact fun z => z e)]
      rw [e, step_ask G mem] at ih
      rw [e, step_ask G mem]
      exact ih
    · rw [if_pos (decide_eq_true e), List.length_cons, Nat.pow_succ, Nat.mul_assoc]
      have b := stepC_len (g := g) (fs := fs) (t := t) (ps := ps)
      exact Nat.le_trans ih (Nat.mul_le_mul_left _ b)
theorem closedC_few {g : Pg} {p : Int} (C : CaseOk g p) : ∀ fs r, (∀ s, s ∈ fs ↔ s ∈ foundP g p) → FallOf fs r → (closedC g p fs r).length + 1 < 64 := by
  intro fs r mem fall
  have G := C.gw
  have few := C.few
  have z := plansC_many G mem r [firstF g p]
  rw [show [firstF g p].length = 1 from rfl, Nat.mul_one] at z
  have l1 : (closedC g p fs r).length ≤ (plansC g fs r [firstF g p]).length := List.length_filter_le _ _
  have lr : r.length ≤ (foundP g p).length := nodup_sub fall.1 fun s hs => (mem s).mp ((fall.2.1 s).mp hs)
  have k : (r.filter fun t => decide (t ≠ (g.asks, p))).length ≤ 5 := by
    cases c : canB g g.asks p
    · rw [found_none c] at lr
      have := List.length_filter_le (fun t => decide (t ≠ (g.asks, p))) r
      have lr : r.length ≤ 0 := lr
      omega
    · have am : (g.asks, p) ∈ r := (fall.2.1 _).mpr ((mem _).mpr (found_ask c))
      have nd : ((g.asks, p) :: r.filter fun t => decide (t ≠ (g.asks, p))).Nodup := List.nodup_cons.mpr ⟨fun m => by have := (List.mem_filter.mp m).2; simp at this, fall.1.sublist (List.filter_sublist ..)⟩
      have := nodup_sub nd (ys := r) fun s hs => by
        rcases List.mem_cons.mp hs with e | m
        · rw [e]
          exact am
        · exact (List.mem_filter.mp m).1
      rw [List.length_cons] at this
      omega
  have p32 : 2 ^ (r.filter fun t => decide (t ≠ (g.asks, p))).length ≤ 32 := Nat.pow_le_pow_right (by decide) k
  omega
end Kn


namespace Kn
open PySem PySem.Spec PyProof.Rows L2
abbrev nBh : List Str := ["_law_full", "_law_found"]
theorem scBh : FnScope nBh [] (defScope (topS 59)) := ⟨rfl, rfl, rfl, by decide +kernel, rfl, by decide +kernel, by decide +kernel⟩
/-! ### data of tuples alone, where lists grow -/
mutual
def tO : PyData → Bool
  | .tuple ds => tOs ds
  | .none => true
  | .bool _ => true
  | .int _ => true
  | .str _ => true
  | _ => false
def tOs : List PyData → Bool
  | [] => true
  | d :: r => tO d && tOs r
end
mutual
theorem dpO {K : PySem.W.Frag} {H H' : Hp} (t : TS H H') : ∀ {v : V} {d : PyData}, tO d = true → Dp K H v d → Dp K H' v d
  | _, _, _, .non => .non
  | _, _, _, .bl b => .bl b
  | _, _, _, .int i => .int i
  | _, _, _, .str x => .str x
  | _, _, h, .lst _ _ => by cases h
  | _, _, h, .tup a b => .tup (tupT t a) (dpOs t h b)
theorem dpOs {K : PySem.W.Frag} {H H' : Hp} (t : TS H H') : ∀ {vs : List V} {ds : List PyData}, tOs ds = true → DpAll K H vs ds → DpAll K H' vs ds
  | _, [], _, .nil => .nil
  | _ :: _, d :: ds, h, .cons a b => by
    have h : (tO d && tOs ds) = true := h
    rw [Bool.and_eq_true] at h
    exact .cons (dpO t h.1 a) (dpOs t h.2 b)
end
theorem tOs_app : ∀ ds es : List PyData, tOs (ds ++ es) = (tOs ds && tOs es)
  | [], _ => rfl
  | d :: r, es => by
    show (tO d && tOs (r ++ es)) = ((tO d && tOs r) && tOs es)
    rw [tOs_app r es, Bool.and_assoc]
/-- found.append(what is written) -/
theorem app_step {K : PySem.W.Frag} {i : Nat} {L : Addr} {acc : List V} {ds : List PyData} {d : PyData} {te : TE} {u : L2.TS} {D : Ends} {σ : L2.St} {H H0 : Hp} (e : σ[i]? = some (some (.ref L))) (eL : H L = some (.lst acc)) (dA : DpAll K H acc ds) (ok : tOs ds = true) (okd : tO d = true) (few : ds.length ≤ 100) (nL : H0 L = none) (s0 : Same H0 H) (hm : Mk K σ H te d)
    (k : ∀ acc' H', Same H0 H' → H' L = some (.lst acc') → DpAll K H' acc' (ds ++ [d]) → u D σ H') : tSeq (tDrop (tBM K "list" rAppend (tVar i) (tCons te tNil))) u D σ H := by
  refine ⟨.ref L, e, .inl ⟨rfl, _, .inl (.inl eL)⟩, ?_⟩
  refine hm H _ (Same.refl H) fun v H2 s2 dv => ?_
  refine ⟨L, acc, v, rfl, rfl, s2 _ _ eL, small' (by rw [dsLen dA]; omega), ?_⟩
  refine k (acc ++ [v]) _ (putS (s0.trans s2) nL) upd_same (dpOs (ts_lst (s2 _ _ eL)) ?_ (dsApp (dsKeep s2 dA) (.cons dv .nil)))
  rw [tOs_app, ok]
  show (true && (tO d && true)) = true
  rw [okd]
  rfl
def ascB : List (Str × Int) → Bool
  | s :: t :: r => PySem.W.dataLt (dPr s) (dPr t) && ascB (t :: r)
  | _ => true
theorem ascB_ok : ∀ {ps : List (Str × Int)}, ascB ps = true → Asc ps
  | [], _ => .nil
  | [s], _ => List.pairwise_singleton _ _
  | s :: t :: r, h => by
    have h : (PySem.W.dataLt (dPr s) (dPr t) && ascB (t :: r)) = true := h
    rw [Bool.and_eq_true] at h
    have ih := ascB_ok h.2
    refine List.pairwise_cons.mpr ⟨fun x hx => ?_, ih⟩
    rcases List.mem_cons.mp hx with rfl | hx
    · exact h.1
    · exact PyProof.Rows.lex_trans _ _ _ h.1 ((List.pairwise_cons.mp ih).1 x hx)
def fallB : List (Str × Int) → Bool
  | s :: t :: r => decide (t.2 ≤ s.2) && fallB (t :: r)
  | _ => true
theorem fallB_ok : ∀ {ps : List (Str × Int)}, fallB ps = true → ps.Pairwise fun s t => t.2 ≤ s.2
  | [], _ => .nil
  | [s], _ => List.pairwise_singleton _ _
  | s :: t :: r, h => by
    have h : (decide (t.2 ≤ s.2) && fallB (t :: r)) = true := h
    rw [Bool.and_eq_true] at h
    have ih := fallB_ok h.2
    have a := of_decide_eq_true h.1
    refine List.pairwise_cons.mpr ⟨fun x hx => ?_, ih⟩
    rcases List.mem_cons.mp hx with rfl | hx
    · exact a
    · have := (List.pairwise_cons.mp ih).1 x hx
      omega
def sameB (x y : List (Str × Int)) : Bool := (x.all fun s => decide (s ∈ y)) && y.all fun s => decide (s ∈ x)
theorem sameB_ok {x y : List (Str × Int)} (h : sameB x y = true) : ∀ s, s ∈ x ↔ s ∈ y := fun s => by
  unfold sameB at h
  rw [Bool.and_eq_true] at h
  exact ⟨fun m => of_decide_eq_true (List.all_eq_true.mp h.1 s m), fun m => of_decide_eq_true (List.all_eq_true.mp h.2 s m)⟩
def ordB : List (List (Str × Int)) → Bool
  | [] => true
  | x :: r => (r.all fun y => !decide (x = y) && !PySem.W.dataLt (dTp y) (dTp x)) && ordB r
theorem ordB_ok : ∀ {rs : List (List (Str × Int))}, ordB rs = true → OrdP rs
  | [], _ => ⟨.nil, .nil⟩
  | x :: r, h => by
    have h : ((r.all fun y => !decide (x = y) && !PySem.W.dataLt (dTp y) (dTp x)) && ordB r) = true := h
    rw [Bool.and_eq_true] at h
    obtain ⟨a, b⟩ := ordB_ok h.2
    have z : ∀ y ∈ r, x ≠ y ∧ PySem.W.dataLt (dTp y) (dTp x) = false := fun y hy => by
      have w := List.all_eq_true.mp h.1 y hy
      rw [Bool.and_eq_true] at w
      exact ⟨by simpa using w.1, by simpa using w.2⟩
    exact ⟨List.nodup_cons.mpr ⟨fun m => (z x m).1 rfl, a⟩, List.pairwise_cons.mpr ⟨fun y hy => (z y hy).2, b⟩⟩
/-! the same, with no list sorted -/
def nearU (g : Pg) (ps : List (Str × Int)) : List Str := (lv g ps).map (·.1)
def quietU (g : Pg) (ps : List (Str × Int)) : List Str := ((lv g ps).filter fun t => !canB g t.1 t.2).map (·.1)
def closedU (g : Pg) (ps : List (Str × Int)) : Bool := (g.es.map (·.name)).all fun n => !(decide (n ∈ nearU g ps) && (!decide (n ∈ quietU g ps) && !decide (n ∈ ps.map (·.1))))
theorem closed_u (g : Pg) (ps : List (Str × Int)) : (openI g ps).isNone = closedU g ps := by
  unfold openI closedU
  rw [open_none]
  refine congrArg (List.all _) (funext fun n => ?_)
  unfold openB
  rw [show decide (n ∈ nearL g ps) = decide (n ∈ nearU g ps) from decide_eq_decide.mpr mem_ascS, show decide (n ∈ quietL g ps) = decide (n ∈ quietU g ps) from decide_eq_decide.mpr mem_ascS, show decide (n ∈ kindsL ps) = decide (n ∈ ps.map (·.1)) from decide_eq_decide.mpr mem_ascS]
def closedV (g : Pg) (p : Int) (fs r : List (Str × Int)) : List (List (Str × Int)) := (plansC g fs r [firstF g p]).filter fun y => closedU g y
theorem closed_v (g : Pg) (p : Int) (fs r : List (Str × Int)) : closedC g p fs r = closedV g p fs r := by
  unfold closedC closedV
  refine congrArg (fun f => List.filter f _) (funext fun y => closed_u g y)
/-- a written web with all its pairs, in order and the great marks first -/
structure WOk (ws : List Str) (p : Int) (fs r : List (Str × Int)) (n : Nat) : Prop where
  w : wsB ws = true
  pb : 0 ≤ p ∧ p ≤ 6
  few : fs.length ≤ 10
  a : (fs.all fun s => decide (s ∈ foundP (webOf abcd ws) p)) = true
  b : ((foundP (webOf abcd ws) p).all fun s => decide (s ∈ fs)) = true
  asc : ascB fs = true
  nd : r.Nodup
  same : sameB r fs = true
  fall : fallB r = true
  len : (closedV (webOf abcd ws) p fs r).length = n
  nf : n ≤ 60
theorem WOk.falls {ws : List Str} {p : Int} {fs r : List (Str × Int)} {n : Nat} (h : WOk ws p fs r n) : FallOf fs r := ⟨h.nd, sameB_ok h.same, fallB_ok h.fall⟩
theorem WOk.mem0 {ws : List Str} {p : Int} {fs r : List (Str × Int)} {n : Nat} (h : WOk ws p fs r n) : ∀ s, s ∈ fs ↔ s ∈ foundP (webOf abcd ws) p := fun s =>
  ⟨fun m => of_decide_eq_true (List.all_eq_true.mp h.a s m), fun m => of_decide_eq_true (List.all_eq_true.mp h.b s m)⟩
/-- what is so of each web of these words -/
structure WebIs (g : Pg) (ws : List Str) (p : Int) (fs r : List (Str × Int)) (n : Nat) : Prop where
  sw : SameW g (webOf abcd ws)
  G : GW g
  G0 : GW (webOf abcd ws)
  mem : ∀ s, s ∈ fs ↔ s ∈ foundP g p
  wi : WiOk g p
  few : (foundP g p).length ≤ 10
  many : ∀ fs' r', (∀ s, s ∈ fs' ↔ s ∈ foundP g p) → FallOf fs' r' → (closedC g p fs' r').length = n
theorem WOk.is {ws : List Str} {p : Int} {fs r : List (Str × Int)} {n : Nat} (h : WOk ws p fs r n) {g : Pg} (nmd : NamedG g ws abcd) : WebIs g ws p fs r n := by
  obtain ⟨W, _⟩ := wsB_ok h.w
  have sw := named_same W abcd_nm nmd
  have G := named_good W abcd_nm nmd
  have G0 := named_good W abcd_nm (web_named (nm := abcd) W)
  have p6 := h.pb.2
  have m : ∀ s, s ∈ fs ↔ s ∈ foundP g p := fun s => (h.mem0 s).trans ⟨found_half sw.symm G0 G p6 s, found_half sw G G0 p6 s⟩
  have l1 := nodup_sub (found_good G (p := p)).nd fun s hs => (m s).mpr hs
  have few := h.few
  refine ⟨sw, G, G0, m, ⟨G, .inl p6, by omega⟩, by omega, fun fs' r' m' f' => ?_⟩
  rw [closed_count sw G G0 p6 (ascB_ok h.asc) m m' f' h.mem0 h.falls, closed_v]
  exact h.len
theorem WebIs.cf {g : Pg} {ws : List Str} {p : Int} {fs r : List (Str × Int)} {n : Nat} (h : WebIs g ws p fs r n) (nf : n ≤ 60) : ∀ fs' r', (∀ s, s ∈ fs' ↔ s ∈ foundP g p) → FallOf fs' r' → (closedC g p fs' r').length + 1 < 64 := fun fs' r' m f => by
  rw [h.many fs' r' m f]
  omega
/-- as many closed plans as these -/
theorem WebIs.count {g : Pg} {ws : List Str} {p : Int} {fs r : List (Str × Int)} {n : Nat} (h : WebIs g ws p fs r n) (aw : Asc fs) (fl : FallOf fs r) {rs : List (List (Str × Int))} (od : OrdP rs) (mem : ∀ X, X ∈ rs ↔ ClosedX g p X) : rs.length = n := by
  obtain ⟨n1, m1⟩ := closedL_ok h.G aw h.mem h.mem fl
  have e1 : (closedL g p fs fs r).length = (closedC g p fs r).length := List.length_map _
  have a := nodup_sub n1 (ys := rs) fun X hX => (mem X).mpr ((m1 X).mp hX)
  have b := nodup_sub od.1 (ys := closedL g p fs fs r) fun X hX => (m1 X).mpr ((mem X).mp hX)
  have := h.many fs r h.mem fl
  omega
structure Hand where
  ws : List Str
  tx : Str
  p : Int
  fs : List (Str × Int)
  r : List (Str × Int)
  due : List (List (Str × Int))
def dHand (h : Hand) : PyData := .tuple [.str h.tx, .int h.p, .tuple (h.due.map dTp)]
def hd1 : Hand := ⟨["a1bd", "b1c", "c1", "d1b"], "a1bd b1c c1 d1b", 2, [("a", 2), ("b", 1), ("d", 1)], [("a", 2), ("d", 1), ("b", 1)], [[("a", 2), ("b", 1), ("d", 1)], [("a", 2), ("d", 1)]]⟩
def hd2 : Hand := ⟨["a1bd", "b1c", "c1", "d1b"], "a1bd b1c c1 d1b", 0, [], [], [[]]⟩
def hd3 : Hand := ⟨["a1a"], "a1a", 1, [("a", 1)], [("a", 1)], [[("a", 1)]]⟩
def hd4 : Hand := ⟨["a1a"], "a1a", 2, [("a", 1), ("a", 2)], [("a", 2), ("a", 1)], [[("a", 1), ("a", 2)], [("a", 2)]]⟩
def hd5 : Hand := ⟨["a1b", "b2c", "c1"], "a1b b2c c1", 2, [("a", 2)], [("a", 2)], [[("a", 2)]]⟩
def hd6 : Hand := ⟨["a1b", "b1*c", "c1"], "a1b b1*c c1", 4, [("a", 4)], [("a", 4)], [[("a", 4)]]⟩
def hd7 : Hand := ⟨["a1"], "a1", 3, [("a", 3)], [("a", 3)], [[("a", 3)]]⟩
def handsL : List Hand := [hd1, hd2, hd3, hd4, hd5, hd6, hd7]
structure HandOk (h : Hand) : Prop where
  w : WOk h.ws h.p h.fs h.r h.due.length
  tx : Txt.join " " h.ws = h.tx
  ne : h.ws ≠ []
  no : ∀ p ∈ h.ws, 32 ∉ p.cps.toList
  ln : h.tx.length ≤ 100
  c1 : (h.due.all fun d => ascB d && (closedV (webOf abcd h.ws) h.p h.fs h.r).any fun y => sameB d y) = true
  c2 : ((closedV (webOf abcd h.ws) h.p h.fs h.r).all fun y => h.due.any fun d => sameB d y) = true
  ord : ordB h.due = true
  nice : goodDs (h.due.map dTp) = true ∧ nodesDs (h.due.map dTp) ≤ 100
theorem hok1 : HandOk hd1 := ⟨⟨by decide +kernel, by decide +kernel, by decide +kernel, by decide +kernel, by decide +kernel, by decide +kernel, by decide +kernel, by decide +kernel, by decide +kernel, by decide +kernel, by decide +kernel⟩, by decide +kernel, by decide +kernel, by decide +kernel, by decide +kernel, by decide +kernel, by decide +kernel, by decide +kernel, by decide +kernel⟩
theorem hok2 : HandOk hd2 := ⟨⟨by decide +kernel, by decide +kernel, by decide +kernel, by decide +kernel, by decide +kernel, by decide +kernel, by decide +kernel, by decide +kernel, by decide +kernel, by decide +kernel, by decide +kernel⟩, by decide +kernel, by decide +kernel, by decide +kernel, by decide +kernel, by decide +kernel, by decide +kernel, by decide +kernel, by decide +kernel⟩
theorem hok3 : HandOk hd3 := ⟨⟨by decide +kernel, by decide +kernel, by decide +kernel, by decide +kernel, by decide +kernel, by decide +kernel, by decide +kernel, by decide +kernel, by decide +kernel, by decide +kernel, by decide +kernel⟩, by decide +kernel, by decide +kernel, by decide +kernel, by decide +kernel, by decide +kernel, by decide +kernel, by decide +kernel, by decide +kernel⟩
theorem hok4 : HandOk hd4 := ⟨⟨by decide +kernel, by decide +kernel, by decide +kernel, by decide +kernel, by decide +kernel, by decide +kernel, by decide +kernel, by decide +kernel, by decide +kernel, by decide +kernel, by decide +kernel⟩, by decide +kernel, by decide +kernel, by decide +kernel, by decide +kernel, by decide +kernel, by decide +kernel, by decide +kernel, by decide +kernel⟩
theorem hok5 : HandOk hd5 := ⟨⟨by decide +kernel, by decide +kernel, by decide +kernel, by decide +kernel, by decide +kernel, by decide +kernel, by decide +kernel, by decide +kernel, by decide +kernel, by decide +kernel, by decide +kernel⟩, by decide +kernel, by decide +kernel, by decide +kernel, by decide +kernel, by decide +kernel, by decide +kernel, by decide +kernel, by decide +kernel⟩
theorem hok6 : HandOk hd6 := ⟨⟨by decide +kernel, by decide +kernel, by decide +kernel, by decide +kernel, by decide +kernel, by decide +kernel, by decide +kernel, by decide +kernel, by decide +kernel, by decide +kernel, by decide +kernel⟩, by decide +kernel, by decide +kernel, by decide +kernel, by decide +kernel, by decide +kernel, by decide +kernel, by decide +kernel, by decide +kernel⟩
theorem hok7 : HandOk hd7 := ⟨⟨by decide +kernel, by decide +kernel, by decide +kernel, by decide +kernel, by decide +kernel, by decide +kernel, by decide +kernel, by decide +kernel, by decide +kernel, by decide +kernel, by decide +kernel⟩, by decide +kernel, by decide +kernel, by decide +kernel, by decide +kernel, by decide +kernel, by decide +kernel, by decide +kernel, by decide +kernel⟩
theorem hands_ok : ∀ h ∈ handsL, HandOk h := by
  intro h hh
  unfold handsL at hh
  simp only [List.mem_cons, List.not_mem_nil, or_false] at hh
  rcases hh with rfl | rfl | rfl | rfl | rfl | rfl | rfl
  · exact hok1
  · exact hok2
  · exact hok3
  · exact hok4
  · exact hok5
  · exact hok6
  · exact hok7
theorem hand_words {h : Hand} (ok : HandOk h) : Txt.split h.tx " " = h.ws := by
  rw [← ok.tx]
  exact TL.split_join (y := " ") (s := 32) (S := []) rfl (by decide +kernel) ok.ne ok.no
theorem hand_due {h : Hand} (ok : HandOk h) {g : Pg} (nmd : NamedG g h.ws abcd) {rs : List (List (Str × Int))} (od : OrdP rs) (mem : ∀ X, X ∈ rs ↔ ClosedX g h.p X) : rs = h.due := by
  have I := ok.w.is nmd
  obtain ⟨al, ex⟩ := plansC_all I.G0 ok.w.mem0 ok.w.falls.1 ok.w.falls.2.1 ok.w.falls.2.2
  refine ord_eq od (ordB_ok ok.ord) fun X => (mem X).trans ((closed_same I.sw I.G I.G0 ok.w.pb.2).trans ⟨fun z => ?_, fun z => ?_⟩)
  · obtain ⟨y, hy, e⟩ := ex X z.sub z.led
    have hf : y ∈ closedV (webOf abcd h.ws) h.p h.fs h.r := by
      rw [← closed_v]
      exact List.mem_filter.mpr ⟨hy, by rw [openI_same e, z.cl]; rfl⟩
    obtain ⟨d, hd, sm⟩ := List.any_eq_true.mp (List.all_eq_true.mp ok.c2 y hf)
    have cd := List.all_eq_true.mp ok.c1 d hd
    rw [Bool.and_eq_true] at cd
    rw [asc_eq z.asc (ascB_ok cd.1) fun s => (e s).symm.trans (sameB_ok sm s).symm]
    exact hd
  · have cd := List.all_eq_true.mp ok.c1 X z
    rw [Bool.and_eq_true] at cd
    obtain ⟨y, hy, sm⟩ := List.any_eq_true.mp cd.2
    rw [← closed_v] at hy
    obtain ⟨h1, h2⟩ := List.mem_filter.mp hy
    have e := sameB_ok sm
    obtain ⟨_, s1, l1⟩ := al y h1
    refine ⟨ascB_ok cd.1, fun s hs => s1 s ((e s).mp hs), l1.of e, ?_⟩
    rw [openI_same e]
    simpa using h2
/-! ### the web with many plans -/
def bigW : List Str := ["a1ab", "b1"]
def bigF : List (Str × Int) := [("a", 1), ("a", 2), ("a", 3), ("a", 4), ("a", 5), ("b", 1), ("b", 2), ("b", 3), ("b", 4)]
def bigR : List (Str × Int) := [("a", 5), ("b", 4), ("a", 4), ("b", 3), ("a", 3), ("b", 2), ("a", 2), ("b", 1), ("a", 1)]
theorem big_ok : WOk bigW 5 bigF bigR 42 := ⟨by decide +kernel, by decide +kernel, by decide +kernel, by decide +kernel, by decide +kernel, by decide +kernel, by decide +kernel, by decide +kernel, by decide +kernel, by decide +kernel, by decide +kernel⟩
def spBh (K : PySem.W.Frag) : Sp := fun vs H Q _ => vs = [] ∧ ∀ (l : Addr) (ys : List V) (H' : Hp), Same H H' → H' l = some (.lst ys) → DpAll K H' ys (handsL.map dHand) → Q (.ref l) H'
section
variable {P : Program} {w : World} {K : PySem.W.Frag} {mg : Str → Option Value} {base : Heap}
theorem ok_bh {f : Addr} {fd : FuncData} (F : Fun K "_law_by_hand" "_law_by_hand" (topS 59) f fd) : FnOk P w K mg base CX0 1 f fd [] (spBh K) := by
  refine F.ok scBh (fun vs H Q E h => ?_) (fun cdv A outer s H vs Q E hr h => ?_)
  · obtain ⟨rfl, _⟩ := h
    rfl
  · obtain ⟨rfl, q⟩ := h
    refine ⟨_, (pss_cons (ps_set (i := 0) scBh.nd rfl (.inl rfl) (pe_tup (pa_cons (pe_tup (pa_cons pe_str (pa_cons pe_int pa_nil))) (pa_cons (pe_tup (pa_cons pe_str (pa_cons pe_int pa_nil))) (pa_cons (pe_tup (pa_cons pe_str (pa_cons pe_int pa_nil))) pa_nil)))))
      (pss_cons (ps_set (i := 1) scBh.nd rfl (.inl rfl) (pe_lst (pa_cons (pe_tup (pa_cons pe_str (pa_cons pe_int (pa_cons (pe_tup (pa_cons (pv 0) (pa_cons (pe_tup (pa_cons (pe_tup (pa_cons pe_str (pa_cons pe_int pa_nil))) (pa_cons (pe_tup (pa_cons pe_str (pa_cons pe_int pa_nil))) pa_nil))) pa_nil))) pa_nil)))) (pa_cons (pe_tup (pa_cons pe_str (pa_cons pe_int (pa_cons (pe_tup (pa_cons (pe_tup pa_nil) pa_nil)) pa_nil)))) pa_nil))))
      (pss_cons (ps_expr (pe_bm PySem.F.plainAttrs_list PySem.F.slot_list_append PySem.F.type_list_append mt_append (pv 1) (pa_cons (pe_tup (pa_cons pe_str (pa_cons pe_int (pa_cons (pe_tup (pa_cons (pe_tup (pa_cons (pe_tup (pa_cons pe_str (pa_cons pe_int pa_nil))) pa_nil)) pa_nil)) pa_nil)))) pa_nil)))
      (pss_cons (ps_set (i := 1) scBh.nd rfl (.inl rfl) (pe_op op_cat (pv 1) (pe_lst (pa_cons (pe_tup (pa_cons pe_str (pa_cons pe_int (pa_cons (pe_tup (pa_cons (pe_tup (pa_cons (pe_tup (pa_cons pe_str (pa_cons pe_int pa_nil))) (pa_cons (pe_tup (pa_cons pe_str (pa_cons pe_int pa_nil))) pa_nil))) (pa_cons (pe_tup (pa_cons (pe_tup (pa_cons pe_str (pa_cons pe_int pa_nil))) pa_nil)) pa_nil))) pa_nil)))) (pa_cons (pe_tup (pa_cons pe_str (pa_cons pe_int (pa_cons (pe_tup (pa_cons (pe_tup (pa_cons (pe_tup (pa_cons pe_str (pa_cons pe_int pa_nil))) pa_nil)) pa_nil)) pa_nil)))) pa_nil)))))
      (pss_one (ps_ret (pe_op op_cat (pv 1) (pe_lst (pa_cons (pe_tup (pa_cons pe_str (pa_cons pe_int (pa_cons (pe_tup (pa_cons (pe_tup (pa_cons (pe_tup (pa_cons pe_str (pa_cons pe_int pa_nil))) pa_nil)) pa_nil)) pa_nil)))) (pa_cons (pe_tup (pa_cons pe_str (pa_cons pe_int (pa_cons (pe_tup (pa_cons (pe_tup (pa_cons (pe_tup (pa_cons pe_str (pa_cons pe_int pa_nil))) pa_nil)) pa_nil)) pa_nil)))) pa_nil)))))))))), ?_⟩
    refine asg_seq (mk_tup (K := K) (H0 := H) (ds := [.tuple [.str "a", .int 2], .tuple [.str "b", .int 1], .tuple [.str "d", .int 1]]) (Nat.le_of_ble_eq_true rfl) (mks_cons mk_pr (mks_cons mk_pr (mks_cons mk_pr mks_nil))) H _ (Same.refl H) fun v0 H0 s0 d_law_full => ?_)
    dsimp only [gName, List.set]
    have sA0 := s0
    refine asg_seq (mk_new (K := K) (H0 := H0) (ds := [dHand hd1, dHand hd2]) (Nat.le_of_ble_eq_true rfl) (mks_cons (mk_tup (Nat.le_of_ble_eq_true rfl) (mks_cons mk_str (mks_cons mk_int (mks_cons (mk_tup (Nat.le_of_ble_eq_true rfl) (mks_cons (mk_var rfl d_law_full) (mks_cons (mk_tup (Nat.le_of_ble_eq_true rfl) (mks_cons mk_pr (mks_cons mk_pr mks_nil))) mks_nil))) mks_nil)))) (mks_cons (mk_tup (Nat.le_of_ble_eq_true rfl) (mks_cons mk_str (mks_cons mk_int (mks_cons (mk_tup (Nat.le_of_ble_eq_true rfl) (mks_cons (mk_tup (Nat.le_of_ble_eq_true rfl) mks_nil) mks_nil)) mks_nil)))) mks_nil)) (Same.refl H0) fun l v1 H1 t1 n1 e1 c1 => ?_)
    dsimp only [gName, List.set]
    have nl := sA0.free n1
    have sA1 := sA0.trans t1
    refine app_step (K := K) (ds := [dHand hd1, dHand hd2]) (d := dHand hd3) (H0 := H) rfl e1 c1 rfl rfl (Nat.le_of_ble_eq_true rfl) nl sA1 (mk_tup (Nat.le_of_ble_eq_true rfl) (mks_cons mk_str (mks_cons mk_int (mks_cons (mk_tup (Nat.le_of_ble_eq_true rfl) (mks_cons (mk_tup (Nat.le_of_ble_eq_true rfl) (mks_cons mk_pr mks_nil)) mks_nil)) mks_nil)))) fun v2 H2 sA2 e2 c2 => ?_
    dsimp only [List.cons_append, List.nil_append] at c2
    refine asg_seq (mk_cat (K := K) (ds := [dHand hd1, dHand hd2, dHand hd3]) (es := [dHand hd4, dHand hd5]) (Nat.le_of_ble_eq_true rfl) (Nat.le_of_ble_eq_true rfl) rfl (mks_cons (mk_tup (Nat.le_of_ble_eq_true rfl) (mks_cons mk_str (mks_cons mk_int (mks_cons (mk_tup (Nat.le_of_ble_eq_true rfl) (mks_cons (mk_tup (Nat.le_of_ble_eq_true rfl) (mks_cons mk_pr (mks_cons mk_pr mks_nil))) (mks_cons (mk_tup (Nat.le_of_ble_eq_true rfl) (mks_cons mk_pr mks_nil)) mks_nil))) mks_nil)))) (mks_cons (mk_tup (Nat.le_of_ble_eq_true rfl) (mks_cons mk_str (mks_cons mk_int (mks_cons (mk_tup (Nat.le_of_ble_eq_true rfl) (mks_cons (mk_tup (Nat.le_of_ble_eq_true rfl) (mks_cons mk_pr mks_nil)) mks_nil)) mks_nil)))) mks_nil)) e2 c2 fun l v1 H3 t3 n3 e3 c3 => ?_)
    dsimp only [gName, List.set]
    have nl := sA2.free n3
    have sA3 := sA2.trans t3
    dsimp only [List.cons_append, List.nil_append] at c3
    refine mk_cat (K := K) (ds := [dHand hd1, dHand hd2, dHand hd3, dHand hd4, dHand hd5]) (es := [dHand hd6, dHand hd7]) (Nat.le_of_ble_eq_true rfl) (Nat.le_of_ble_eq_true rfl) rfl (mks_cons (mk_tup (Nat.le_of_ble_eq_true rfl) (mks_cons mk_str (mks_cons mk_int (mks_cons (mk_tup (Nat.le_of_ble_eq_true rfl) (mks_cons (mk_tup (Nat.le_of_ble_eq_true rfl) (mks_cons mk_pr mks_nil)) mks_nil)) mks_nil)))) (mks_cons (mk_tup (Nat.le_of_ble_eq_true rfl) (mks_cons mk_str (mks_cons mk_int (mks_cons (mk_tup (Nat.le_of_ble_eq_true rfl) (mks_cons (mk_tup (Nat.le_of_ble_eq_true rfl) (mks_cons mk_pr mks_nil)) mks_nil)) mks_nil)))) mks_nil)) e3 c3 fun l2 v2 H9 s9 _ e9 d9 => ?_
    exact q l2 v2 H9 (sA3.trans s9) e9 d9
end
end Kn


namespace Kn
open PySem PySem.Spec PyProof.Rows L2
abbrev nIc : List Str := ["web", "marks", "plan"]
theorem scIc : FnScope nIc ["web", "marks", "plan"] (defScope (topS 37)) := ⟨rfl, rfl, rfl, by decide +kernel, rfl, by decide +kernel, by decide +kernel⟩
/-- what is_closed does with the marks and any data -/
structure IcP (K : PySem.W.Frag) (D : Addr) (vs : List V) (H : Hp) (Q : VK) (E : XK) : Prop where
  ex : ∃ (w v : V) (g : Pg) (p : Int) (d : PyData), vs = [w, .int p, v] ∧ PgAt K H w g ∧ GW g ∧ 0 ≤ p ∧ p.natAbs < 900 ∧ Dp K H v d ∧ Nice d ∧
  (∀ ps : List (Str × Int), d = .tuple (ps.map dPr) → ps.length ≤ 12) ∧
  (∀ ps : List (Str × Int), d = .tuple (ps.map dPr) → planD g p d = true → ∀ H', Same H H' → Q (.bl (closedB g ps)) H') ∧ (planD g p d = false → NoUse D "plan" H E)
def spIc (K : PySem.W.Frag) (D : Addr) : Sp := fun vs H Q E => IcP K D vs H Q E
section
variable {P : Program} {w : World} {K : PySem.W.Frag} {mg : Str → Option Value} {base : Heap}
theorem ok_ic {f fM fO D : Addr} {fd fdM fdO : FuncData} (F : Fun K "is_closed" "is_closed" (topS 37) f fd) (Mp : Def K mg "check_made_plan" 30 ["web", "marks", "plan"] fM fdM) (OM : FnOk P w K mg base (L2.CX P w) 7 fM fdM ["web", "marks", "plan"] (spMp K D))
    (Op : Def K mg "open_kind" 34 ["web", "plan"] fO fdO) (OO : FnOk P w K mg base CX0 5 fO fdO ["web", "plan"] (spOp K)) : FnOk P w K mg base (L2.CX P w) 8 f fd ["web", "marks", "plan"] (spIc K D) := by
  refine F.okX scIc (fun vs H Q E h => ?_) (fun cdv A outer s H vs Q E hr h => ?_)
  · obtain ⟨w0, v, g, p, d, rfl, _⟩ := h
    rfl
  · obtain ⟨w0, v, g, p, d, rfl, pg, gw, p0, pb, hd, ni, few, qy, qn⟩ := h
    refine ⟨_, (pss_cons (ps_expr (pe_call OM hr (by rfl) Mp.m Mp.F.kp Mp.b .nil (passes_call (takes_of rfl rfl rfl rfl) (fun _ _ _ _ h => h)) (pa_cons (pv 0) (pa_cons (pv 1) (pa_cons (pv 2) pa_nil)))))
      (pss_one (ps_ret (pe_cmpR op_isN (pe_call OO (hr.mono (by decide)) (by rfl) Op.m Op.F.kp Op.b .nil pass0 (pa_cons (pv 0) (pa_cons (pv 2) pa_nil))) pe_non (nomark _))))), ?_⟩
    refine ⟨w0, rfl, .int p, rfl, v, rfl, w0, v, g, p, d, rfl, pg, gw, p0, by omega, hd, ni, fun z H1 s1 => ?_, qn⟩
    obtain ⟨ps, rfl, kn⟩ := plan_prs pb z
    obtain ⟨q0, xs, rfl, hT, hds, _⟩ := tupD hd
    rw [z] at qy
    refine ⟨w0, rfl, .ref q0, rfl, w0, q0, g, xs, ps, rfl, pg.same s1, gw, tupS s1 hT, dsKeep s1 hds, few ps rfl, kn, fun H2 s2 => ⟨rfl, ?_⟩⟩
    rw [opt_none]
    exact qy ps rfl rfl H2 (s1.trans s2)
end
end Kn


namespace Kn
open PySem PySem.Spec PyProof.Rows L2
structure ShowD (d : PyData) : Prop where
  s : d.showable = true
  h : d.hasDict = false
  dp : d.depth ≤ 20
  ln : d.shown.length ≤ sizeLine
theorem show_of {d : PyData} (g : goodD d = true) (dp : d.depth ≤ 20) (n : nodesD d ≤ 60000) : ShowD d := by
  obtain ⟨s1, s2, s3⟩ := good_shown _ g
  exact ⟨s1, s2, dp, Nat.le_trans (show d.shown.length ≤ 4800000 by omega) (by decide)⟩
theorem show_bool (b : Bool) : ShowD (.bool b) := by
  cases b <;> exact show_of rfl (Nat.zero_le _) (Nat.le_of_ble_eq_true rfl)
theorem part_nice {g : Pg} (G : GW g) {x : List (Str × Int)} (l : x.length ≤ 12) (ok : ∀ s ∈ x, okP g s) : Nice (.tuple (x.map dPr)) := by
  have n := prs_nodes G ok
  have d := prs_deep x
  refine ⟨prs_goods fun s hs => okP_good G (ok s hs), ?_, ?_⟩
  · show PyData.depthAll (x.map dPr) + 1 ≤ 40
    omega
  · show 1 + nodesDs (x.map dPr) ≤ 1000
    omega
theorem plans_good {g : Pg} (G : GW g) : ∀ {qs : List (List (Str × Int))}, (∀ x ∈ qs, x.length ≤ 8 ∧ ∀ s ∈ x, okP g s) → goodDs (qs.map dTp) = true ∧ nodesDs (qs.map dTp) ≤ 90 * qs.length ∧ PyData.depthAll (qs.map dTp) ≤ 2
  | [], _ => ⟨rfl, Nat.le_refl _, Nat.zero_le _⟩
  | x :: r, h => by
    obtain ⟨a, b, c⟩ := plans_good G (qs := r) fun y hy => h y (List.mem_cons_of_mem _ hy)
    obtain ⟨l, ok⟩ := h x (List.mem_cons_self ..)
    have n := prs_nodes G ok
    have d := tp_deep x
    refine ⟨?_, ?_, ?_⟩
    · show (goodDs (x.map dPr) && goodDs (r.map dTp)) = true
      rw [a, prs_goods fun s hs => okP_good G (ok s hs)]
      rfl
    · show (1 + nodesDs (x.map dPr)) + nodesDs (r.map dTp) ≤ 90 * (r.length + 1)
      omega
    · show max (dTp x).depth (PyData.depthAll (r.map dTp)) ≤ 2
      omega
theorem deeps_le : ∀ {qs : List (List (Str × Int))}, PyData.depthAll (qs.map dTp) ≤ 2
  | [] => Nat.zero_le _
  | x :: r => by
    have d := tp_deep x
    have ih := deeps_le (qs := r)
    show max (dTp x).depth (PyData.depthAll (r.map dTp)) ≤ 2
    omega
/-- two such lists in one list -/
theorem pair_show {g : Pg} (G : GW g) {qs : List (List (Str × Int))} (h : ∀ x ∈ qs, x.length ≤ 8 ∧ ∀ s ∈ x, okP g s) (few : qs.length ≤ 256) : ShowD (.list [.tuple (qs.map dTp), .tuple (qs.map dTp)]) := by
  obtain ⟨a, b, c⟩ := plans_good G h
  refine show_of ?_ ?_ ?_
  · show (goodDs (qs.map dTp) && (goodDs (qs.map dTp) && true)) = true
    rw [a]
    rfl
  · show max (PyData.depthAll (qs.map dTp) + 1) (max (PyData.depthAll (qs.map dTp) + 1) 0) + 1 ≤ 20
    omega
  · show 1 + ((1 + nodesDs (qs.map dTp)) + ((1 + nodesDs (qs.map dTp)) + 0)) ≤ 60000
    omega
theorem prs_eqv : ∀ x y : List (Str × Int), PyData.eqvAll (x.map dPr) (y.map dPr) = decide (x = y)
  | [], [] => by simp [PyData.eqvAll]
  | [], b :: y => by simp [PyData.eqvAll]
  | a :: x, [] => by simp [PyData.eqvAll]
  | a :: x, b :: y => by
    rw [List.map_cons, List.map_cons, PySem.W.eqv_all_cons, pr_eqv, prs_eqv x y]
    by_cases e : a = b
    · subst e
      by_cases f : x = y
      · subst f
        simp
      · simp [f]
    · simp [e]
theorem tp_eqv (x y : List (Str × Int)) : PyData.eqv (dTp x) (dTp y) = decide (x = y) := by
  rw [← prs_eqv]
  simp only [PyData.eqv]
theorem any_tp (qs : List (List (Str × Int))) (x : List (Str × Int)) : ((qs.map dTp).any fun z => PyData.eqv z (dTp x)) = decide (x ∈ qs) := by
  induction qs with
  | nil => rfl
  | cons q r ih =>
    rw [List.map_cons, List.any_cons, ih, tp_eqv]
    by_cases e : q = x
    · subst e
      simp
    · rw [decide_eq_false e, Bool.false_or]
      exact decide_eq_decide.mpr ⟨fun h => List.mem_cons_of_mem _ h, fun h => (List.mem_cons.mp h).resolve_left fun z => e z.symm⟩
theorem tp_laysAll {qs : List (List (Str × Int))} (g : goodDs (qs.map dTp) = true) : PyData.canLayAll0 (qs.map dTp) = true := SeqAt.canLay_of_shaped (good_shaped (d := .list (qs.map dTp)) g (by have := deeps_le (qs := qs); show PyData.depthAll (qs.map dTp) + 1 ≤ 64; omega))
/-! ### plans of the law -/
theorem lst_fd {f a L : Addr} {ns : List Int} {H H' : Hp} {c : Nat} {zs : List V} (hL : H L = some (.lst zs)) (hd : Fd f a ns H c) (k : Keep f H H') : H' L = some (.lst zs) := k _ _ (fd_ne hd hL) hL
theorem big_yes : planD (webOf abcd bigW) 5 (.tuple (bigF.map dPr)) = true := by decide +kernel
theorem due_mem {g : Pg} {p : Int} (C : CaseOk g p) {fs : List (Str × Int)} (mem : ∀ s, s ∈ fs ↔ s ∈ foundP g p) (asc : Asc fs) {qs : List (List (Str × Int))} (hq : ∀ x, x ∈ qs ↔ (x.Sublist fs ∧ lawP g p x = true)) (X : List (Str × Int)) : X ∈ qs.filter (fun x => closedB g x) ↔ ClosedX g p X := by
  rw [List.mem_filter, hq]
  constructor
  · rintro ⟨⟨a, b⟩, c⟩
    exact ⟨asc.sublist a, fun s hs => (mem s).mp (a.subset hs), law_led b, by simpa [closedB] using c⟩
  · intro z
    refine ⟨⟨asc_sub z.asc asc fun s hs => (mem s).mpr (z.sub s hs), led_law C.gw z.led z.sub⟩, ?_⟩
    unfold closedB
    rw [z.cl]
    rfl
theorem greatest {g : Pg} (G : GW g) {p : Int} (p6 : p ≤ 6) {qs : List (Str × Int)} (mem : ∀ s, s ∈ qs ↔ s ∈ foundP g p) (asc : Asc qs) : ClosedX g p qs := by
  refine ⟨asc, fun s hs => (mem s).mp hs, (led_found g p).of mem, (openI_iff G).mpr fun n => ?_⟩
  unfold openB
  by_cases nr : n ∈ nearL g qs
  · obtain ⟨t, ht, e⟩ := List.mem_map.mp (mem_ascS.mp nr)
    obtain ⟨s, hs, hl⟩ := List.mem_flatMap.mp ht
    cases zc : canB g t.1 t.2
    · have q : n ∈ quietL g qs := mem_ascS.mpr (List.mem_map.mpr ⟨t, List.mem_filter.mpr ⟨ht, by rw [zc]; rfl⟩, e⟩)
      rw [decide_eq_true q, Bool.not_true, Bool.false_and, Bool.and_false]
    · have k : n ∈ kindsL qs := mem_ascS.mpr (List.mem_map.mpr ⟨t, (mem t).mpr (found_closed G p6 s ((mem s).mp hs) t hl zc), e⟩)
      rw [decide_eq_true k, Bool.not_true, Bool.and_false, Bool.and_false]
  · rw [decide_eq_false nr, Bool.false_and]
/-- two closed plans together are closed -/
theorem closed_join {g : Pg} (G : GW g) {p : Int} {x y r : List (Str × Int)} (a : ClosedX g p x) (b : ClosedX g p y) (asc : Asc r) (mem : ∀ s, s ∈ r ↔ s ∈ x ++ y) : ClosedX g p r := by
  have inx : ∀ s ∈ x, s ∈ r := fun s hs => (mem s).mpr (List.mem_append_left _ hs)
  have iny : ∀ s ∈ y, s ∈ r := fun s hs => (mem s).mpr (List.mem_append_right _ hs)
  refine ⟨asc, fun s hs => (List.mem_append.mp ((mem s).mp hs)).elim (a.sub s) (b.sub s), ⟨fun s hs => ?_, fun z => inx _ (a.led.first z)⟩, (openI_iff G).mpr fun n => ?_⟩
  · rcases List.mem_append.mp ((mem s).mp hs) with h | h
    · exact (a.led.led s h).imp id fun z => lv_mono inx z
    · exact (b.led.led s h).imp id fun z => lv_mono iny z
  · have one : ∀ z : List (Str × Int), ClosedX g p z → (∀ s ∈ z, s ∈ r) → n ∈ nearL g z → openB g r n = false := fun z cz inz nz => by
      have o := (openI_iff G).mp cz.cl n
      unfold openB at o ⊢
      rw [decide_eq_true nz, Bool.true_and] at o
      by_cases q : n ∈ quietL g z
      · have q2 : n ∈ quietL g r := by
          obtain ⟨t, ht, e⟩ := List.mem_map.mp (mem_ascS.mp q)
          obtain ⟨h1, h2⟩ := List.mem_filter.mp ht
          exact mem_ascS.mpr (List.mem_map.mpr ⟨t, List.mem_filter.mpr ⟨lv_mono inz h1, h2⟩, e⟩)
        rw [decide_eq_true q2, Bool.not_true, Bool.false_and, Bool.and_false]
      · rw [decide_eq_false q, Bool.not_false, Bool.true_and] at o
        have k : n ∈ kindsL z := by
          by_cases k : n ∈ kindsL z
          · exact k
          · rw [decide_eq_false k] at o
            cases o
        have k2 : n ∈ kindsL r := by
          obtain ⟨t, ht, e⟩ := List.mem_map.mp (mem_ascS.mp k)
          exact mem_ascS.mpr (List.mem_map.mpr ⟨t, inz t ht, e⟩)
        rw [decide_eq_true k2, Bool.not_true, Bool.and_false, Bool.and_false]
    by_cases nr : n ∈ nearL g r
    · obtain ⟨t, ht, e⟩ := List.mem_map.mp (mem_ascS.mp nr)
      obtain ⟨s, hs, hl⟩ := List.mem_flatMap.mp ht
      rcases List.mem_append.mp ((mem s).mp hs) with h | h
      · exact one x a inx (mem_ascS.mpr (List.mem_map.mpr ⟨t, List.mem_flatMap.mpr ⟨s, h, hl⟩, e⟩))
      · exact one y b iny (mem_ascS.mpr (List.mem_map.mpr ⟨t, List.mem_flatMap.mpr ⟨s, h, hl⟩, e⟩))
    · unfold openB
      rw [decide_eq_false nr, Bool.false_and]
end Kn


namespace Kn
open PySem PySem.Spec PyProof.Rows L2
section
variable {K : PySem.W.Frag}
/-- pairs_of with marks -/
theorem ps_call {D : Addr} {w0 : V} {g : Pg} {p : Int} {H : Hp} {Q : VK} {E : XK} (pg : PgAt K H w0 g) (p0 : 0 ≤ p) (ok : WiOk g p) (q : FoundE K g p H Q) : spPs K D [w0, .int p] H Q E :=
  ⟨⟨w0, .int p, g, .int p, rfl, pg, .int p, fun z => absurd p0 (of_decide_eq_false z), fun p' e _ => by
    rw [← PyData.int.inj e]
    exact ⟨ok, q⟩⟩⟩
end
def PCK (K : PySem.W.Frag) (H : Hp) (cs : List PCell) : Prop := ∀ c ∈ cs, SqT K H c.1 [.str c.2.1, .int c.2.2]
theorem PCK.same {K : PySem.W.Frag} {H H' : Hp} {cs : List PCell} (h : PCK K H cs) (s : Same H H') : PCK K H' cs := fun c hc => tupS s (h c hc)
theorem pc_dpK {K : PySem.W.Frag} {H : Hp} {c : PCell} (h : SqT K H c.1 [.str c.2.1, .int c.2.2]) : Dp K H (.ref (pcD c).1) (pcD c).2 ∧ keyB (pcD c).2 = true ∧ (pcD c).2.depth ≤ 8 :=
  ⟨.tup h (.cons (.str _) (.cons (.int _) .nil)), rfl, (show 1 ≤ 8 by decide)⟩
theorem pcs_toK {K : PySem.W.Frag} {H : Hp} : ∀ {cs : List PCell}, PCK K H cs → DpAll K H (cs.map fun c => V.ref c.1) ((cs.map (·.2)).map dPr)
  | [], _ => .nil
  | c :: r, h => .cons (.tup (h c (List.mem_cons_self ..)) (.cons (.str _) (.cons (.int _) .nil))) (pcs_toK fun x hx => h x (List.mem_cons_of_mem _ hx))
theorem pcs_ofK {K : PySem.W.Frag} {H : Hp} : ∀ {ys : List V} {ts : List (Str × Int)}, DpAll K H ys (ts.map dPr) → ∃ cs : List PCell, ys = cs.map (fun c => V.ref c.1) ∧ ts = cs.map (·.2) ∧ PCK K H cs
  | _, [], .nil => ⟨[], rfl, rfl, fun _ h => by cases h⟩
  | _, s :: ts, .cons a b => by
    obtain ⟨p, rfl, hp⟩ := pr_seq a
    obtain ⟨cs, e1, e2, h⟩ := pcs_ofK b
    refine ⟨(p, s) :: cs, by rw [List.map_cons, ← e1], by rw [List.map_cons, ← e2], fun c hc => ?_⟩
    rcases List.mem_cons.mp hc with rfl | hc
    · exact hp
    · exact h c hc
section
variable {K : PySem.W.Frag} {w : World}
theorem sorted_endF {cs : List PCell} {qs : List Cell} {a : Addr} {H : Hp} {R : VK} (pc : PCK K H cs) (na : H a = none) (sub : ∀ q ∈ qs, q ∈ cs.map pcD) (all : ∀ p ∈ cs.map pcD, keyD p.2 ∈ qs.map fun q => keyD q.2) (nd : (qs.map fun q => keyD q.2).Nodup)
    (fin : ∀ (l : Addr) (vs : List V) (rs : List (Str × Int)) (H' : Hp), Same H H' → H' l = some (.lst vs) → DpAll K H' vs (rs.map dPr) → Asc rs → (∀ s, s ∈ rs ↔ s ∈ cs.map (·.2)) → R (.ref l) H') : rSortedK K w [.ref a] (upd H a (SetK w a (qs.map memOf))) R := by
  obtain ⟨cq, rfl, hcq⟩ := lift_sub qs sub
  have s1 := same_new (o := SetK w a ((cq.map pcD).map memOf)) na
  have pq : PCK K (upd H a (SetK w a ((cq.map pcD).map memOf))) cq := fun c hc => tupS s1 (pc c (hcq c hc))
  refine ⟨a, cq.map pcD, rfl, upd_same, fun p hp => ?_, ?_, ?_, fun l rs nl pm pw => ?_⟩
  · obtain ⟨c, hc, rfl⟩ := List.mem_map.mp hp
    exact pc_dpK (pq c hc)
  · have := pr_alike (cq.map (·.2))
    rw [List.map_map] at this ⊢
    exact this
  · have := pr_sortable (cq.map (·.2))
    rw [List.map_map] at this ⊢
    exact this
  · obtain ⟨cr, pr, rfl⟩ := lift_perm rs cq pm
    have eus : (cr.map pcD).map (fun q => V.ref q.1) = cr.map fun c => V.ref c.1 := List.map_map ..
    rw [eus]
    have s2 := s1.trans (same_new (o := .lst (cr.map fun c => V.ref c.1)) nl)
    have e2 : (upd (upd H a (SetK w a ((cq.map pcD).map memOf))) l (.lst (cr.map fun c => V.ref c.1))) l = some (.lst (cr.map fun c => V.ref c.1)) := upd_same
    generalize upd (upd H a (SetK w a ((cq.map pcD).map memOf))) l (.lst (cr.map fun c => V.ref c.1)) = H2 at s2 e2 ⊢
    have pr2 : PCK K H cr := fun c hc => pc c (hcq c (pr.mem_iff.mp hc))
    have ndq : (cq.map (·.2)).Nodup := by
      rw [List.map_map] at nd
      refine List.pairwise_map.mpr ((List.pairwise_map.mp nd).imp fun {x y} h e => h ?_)
      show keyD (dPr x.2) = keyD (dPr y.2)
      rw [e]
    have asc : Asc (cr.map (·.2)) := by
      have z := asc_of (cs := cr.map fun c => (V.ref c.1, c.2)) (by rw [List.map_map]; exact List.pairwise_map.mpr ((List.pairwise_map.mp pw).imp fun {x y} h => h)) (by rw [List.map_map]; exact ((pr.map (·.2)).nodup_iff).mpr ndq)
      rw [List.map_map] at z
      exact z
    refine fin l _ (cr.map (·.2)) H2 s2 e2 (pcs_toK (pr2.same s2)) asc fun s => ?_
    constructor
    · intro h
      obtain ⟨c, hc, rfl⟩ := List.mem_map.mp h
      exact List.mem_map.mpr ⟨c, hcq c (pr.mem_iff.mp hc), rfl⟩
    · intro h
      obtain ⟨c, hc, rfl⟩ := List.mem_map.mp h
      have z := all (pcD c) (List.mem_map.mpr ⟨c, hc, rfl⟩)
      rw [List.map_map] at z
      obtain ⟨c', hc', e⟩ := List.mem_map.mp z
      rw [← keyD_pr (s := c'.2) (t := c.2) e]
      exact List.mem_map.mpr ⟨c', pr.mem_iff.mpr hc', rfl⟩
end
/-- closed_plans with marks -/
theorem cq_call {K : PySem.W.Frag} {D : Addr} {w0 : V} {g : Pg} {p : Int} {H : Hp} {Q : VK} {E : XK} (pg : PgAt K H w0 g) (p0 : 0 ≤ p) (ok : WiOk g p) (few : (foundP g p).length ≤ 10) (cf : ∀ fs r, (∀ s, s ∈ fs ↔ s ∈ foundP g p) → FallOf fs r → (closedC g p fs r).length + 1 < 64)
    (q : ∀ (q : Addr) (zs : List V) (rs : List (List (Str × Int))) (H' : Hp), Same H H' → H' q = some (.tup zs) → TupsAt K H' zs rs → OrdP rs → (∀ X, X ∈ rs ↔ ClosedX g p X) → Q (.ref q) H') : spCq K D [w0, .int p] H Q E :=
  ⟨⟨w0, .int p, g, .int p, rfl, pg, .int p, fun z => absurd p0 (of_decide_eq_false z), fun p' e _ => by
    obtain rfl : p = p' := PyData.int.inj e
    exact ⟨ok, few, cf, q⟩⟩⟩
/-- is_closed of a plan -/
theorem ic_call {K : PySem.W.Frag} {D : Addr} {w0 v : V} {g : Pg} {p : Int} {ps : List (Str × Int)} {H : Hp} {Q : VK} {E : XK} (pg : PgAt K H w0 g) (G : GW g) (p0 : 0 ≤ p) (p6 : p ≤ 6) (hd : Dp K H v (.tuple (ps.map dPr))) (ni : Nice (.tuple (ps.map dPr))) (few : ps.length ≤ 12)
    (yes : planD g p (.tuple (ps.map dPr)) = true) (q : ∀ H', Same H H' → Q (.bl (closedB g ps)) H') : spIc K D [w0, .int p, v] H Q E :=
  ⟨⟨w0, v, g, p, _, rfl, pg, G, p0, by omega, hd, ni, fun ps' e => by rw [← dPr_inj (PyData.tuple.inj e)]; exact few, fun ps' e _ => by rw [← dPr_inj (PyData.tuple.inj e)]; exact q, fun z => by rw [yes] at z; cases z⟩⟩
theorem closed_yes {g : Pg} {p : Int} {x : List (Str × Int)} (h : ClosedX g p x) : closedB g x = true := by
  unfold closedB
  rw [h.cl]
  rfl
theorem tps_good {g : Pg} (G : GW g) : ∀ {qs : List (List (Str × Int))}, (∀ x ∈ qs, ∀ s ∈ x, okP g s) → goodDs (qs.map dTp) = true
  | [], _ => rfl
  | x :: r, h => by
    show (goodDs (x.map dPr) && goodDs (r.map dTp)) = true
    rw [tps_good G (qs := r) fun y hy => h y (List.mem_cons_of_mem _ hy), prs_goods fun s hs => okP_good G (h x (List.mem_cons_self ..) s hs)]
    rfl
theorem closed_ok {g : Pg} (G : GW g) {p : Int} (p6 : p ≤ 6) {x : List (Str × Int)} (h : ClosedX g p x) : ∀ s ∈ x, okP g s := fun s hs => by
  have z := (found_good G (p := p)).all s (h.sub s hs)
  exact ⟨z.1, by have := z.2.2; omega⟩
end Kn


namespace Kn
open PySem PySem.Spec PyProof.Rows L2
abbrev nLaw : List Str := ["_law_script", "_law_feed_here", "_law_told", "_law_power", "_law_due", "_law_book", "_law_whole", "_law_lap", "_law_kept", "_law_lot", "_law_some", "_law_turn", "_law_one", "_law_two"]
theorem scLaw : FnScope nLaw ["_law_script"] (defScope (topS 60)) := ⟨rfl, rfl, rfl, by decide +kernel, rfl, by decide +kernel, by decide +kernel⟩
def spLaw (K : PySem.W.Frag) : Sp := fun vs H Q _ => ∃ (a : Addr) (ns : List Int), vs = [.ref a] ∧ SqL K H a (ns.map V.int) ∧ ns.length ≤ 63 ∧ ∀ H', Q (.bl true) H'
section
variable {P : Program} {w : World} {K : PySem.W.Frag} {mg : Str → Option Value} {base : Heap}
theorem ok_law {g D gB gH gM gC gR gPn gLc gA f1 f2 f3 : Addr} {fd fB fH fM fC fR fPn fLc fA d1 d2 d3 : FuncData} (F : Fun K "law" "law" (topS 60) g fd)
    (B : Def K mg "_law_feed" 40 ["_law_script"] gB fB) (OB : FnOk P w K mg base CX0 1 gB fB ["_law_script"] (spStart K))
    (Bh : Def K mg "_law_by_hand" 59 [] gH fH) (OH : FnOk P w K mg base CX0 1 gH fH [] (spBh K))
    (Nm : Def K mg "_law_named" 48 ["_law_words", "_law_names"] gM fM) (OM : FnOk P w K mg base CX0 1 gM fM ["_law_words", "_law_names"] (spNm K))
    (Ca : Def K mg "_law_case" 50 ["_law_feed_here", "_law_most"] gC fC) (OC : FnOk P w K mg base CX0 4 gC fC ["_law_feed_here", "_law_most"] (spCa K))
    (Pa : Def K mg "_law_pairs" 46 ["_law_book", "_law_power"] gR fR) (OR : FnOk P w K mg base CX0 3 gR fR ["_law_book", "_law_power"] (spLp K))
    (Pn : Def K mg "_law_plans" 54 ["_law_book", "_law_power"] gPn fPn) (OPn : FnOk P w K mg base CX0 5 gPn fPn ["_law_book", "_law_power"] (spPn K))
    (Lc : Def K mg "_law_is_closed" 58 ["_law_book", "_law_some"] gLc fLc) (OLc : FnOk P w K mg base CX0 5 gLc fLc ["_law_book", "_law_some"] (spLcl K))
    (An : Def K mg "_law_any" 42 ["_law_feed_here", "_law_some"] gA fA) (OA : FnOk P w K mg base CX0 2 gA fA ["_law_feed_here", "_law_some"] (spAny K))
    (A1 : Def K mg "closed_plans" 38 ["web", "marks"] f1 d1) (O1 : FnOk P w K mg base (L2.CX P w) 7 f1 d1 ["web", "marks"] (spCq K D)) (k1 : KBn K d1 ["web", "marks"] 0 ["marks", "web"] (fun _ us => us.reverse) (fun _ zs => zs.reverse))
    (A2 : Def K mg "is_closed" 37 ["web", "marks", "plan"] f2 d2) (O2 : FnOk P w K mg base (L2.CX P w) 8 f2 d2 ["web", "marks", "plan"] (spIc K D))
    (A3 : Def K mg "pairs_of" 36 ["web", "marks"] f3 d3) (O3 : FnOk P w K mg base (L2.CX P w) 6 f3 d3 ["web", "marks"] (spPs K D))
    (mp : mg "repr" = none) (mr : mg "range" = none) (mt : mg "tuple" = none) (mo : mg "sorted" = none) (ml : mg "len" = none) (mse : mg "set" = none) :
    Vow P w K mg base 10 g fd ["_law_script"] (spLaw K) := by
  refine Vow.body F scLaw (fun vs H Q E h => ?_) (fun cdv A outer s H vs Q E hq hr h => ?_)
  · obtain ⟨a, ns, rfl, _⟩ := h
    rfl
  · obtain ⟨a0, ns0, rfl, hS, hl, q⟩ := h
    refine ⟨_, (pss_cons (ps_set (i := 1) scLaw.nd rfl (.inl rfl) (pe_call OB (hr.mono (by decide)) (by rfl) B.m B.F.kp B.b .nil pass0 (pa_cons (pv 0) pa_nil)))
      (pss_cons (ps_for PassesOwn.never rfl (pi_list (pe_call0 OH (hr.mono (by decide)) (by rfl) Bh.m Bh.F.kp Bh.b .nil pass0)) (pg_tup (by rfl) (pgs_cons (pg_name (i := 2) scLaw.nd rfl (.inl rfl)) (pgs_cons (pg_name (i := 3) scLaw.nd rfl (.inl rfl)) (pgs_cons (pg_name (i := 4) scLaw.nd rfl (.inl rfl)) pgs_nil)))) (pss_one (ps_if (pt_cmpR op_ne (pe_callB (call_showV hq hr.units) (by rfl) mp boot_repr (pa_cons (pe_call O1 (hr.mono (by decide)) (by rfl) A1.m A1.F.kp A1.b .nil passF (pa_cons (pe_call OM (hr.mono (by decide)) (by rfl) Nm.m Nm.F.kp Nm.b .nil pass0 (pa_cons (pe_split (pv 2) pe_str) (pa_cons pe_str pa_nil))) (pa_cons (pv 3) pa_nil))) pa_nil)) (pe_callB (call_showV hq hr.units) (by rfl) mp boot_repr (pa_cons (pv 4) pa_nil)) (nomark _)) (pss_one (ps_ret pe_bl)) pss_nil)))
      (pss_cons (ps_set (i := 5) scLaw.nd rfl (.inr rfl) (pe_call OM (hr.mono (by decide)) (by rfl) Nm.m Nm.F.kp Nm.b .nil pass0 (pa_cons (pe_lst (pa_cons pe_str (pa_cons pe_str pa_nil))) (pa_cons pe_str pa_nil))))
      (pss_cons (ps_par (i := 2) (j := 6) (by rfl) scLaw.nd rfl rfl (by decide) rfl rfl (pa_cons (pe_call O1 (hr.mono (by decide)) (by rfl) A1.m A1.F.kp A1.b .nil passF (pa_cons (pv 5) (pa_cons pe_int pa_nil))) (pa_cons (pe_call OR (hr.mono (by decide)) (by rfl) Pa.m Pa.F.kp Pa.b .nil pass0 (pa_cons (pv 5) (pa_cons pe_int pa_nil))) pa_nil)) (by rfl))
      (pss_cons (ps_if (PW.pt (pw_or (pt_cmpR op_ne (pe_callB call_len_seq (by rfl) ml PySem.boot_len (pa_cons (pv 2) pa_nil)) pe_int (nomark _)) (pw_or (pt_cmpR op_ne (pe_callB call_len_seq (by rfl) ml PySem.boot_len (pa_cons (pv 6) pa_nil)) pe_int (nomark _)) (pw_or (pt_cmpR (op_notInTD hr.units) (pv 6) (pv 2) (by rfl)) (pw_or1 (pt_cmpR op_isnot_bl (pe_call O2 (hr.mono (by decide)) (by rfl) A2.m A2.F.kp A2.b .nil passF (pa_cons (pv 5) (pa_cons pe_int (pa_cons (pv 6) pa_nil)))) pe_bl (nomark _))))))) (pss_one (ps_ret pe_bl)) pss_nil)
      (pss_cons (ps_for PassesOwn.never rfl (pi_range1 (by rfl) mr (pa_cons pe_int pa_nil)) (pg_name (i := 7) scLaw.nd rfl (.inl rfl)) (pss_cons (ps_asg (pe_call OC (hr.mono (by decide)) (by rfl) Ca.m Ca.F.kp Ca.b .nil pass0 (pa_cons (pv 1) (pa_cons pe_int pa_nil))) (pg_tup (by rfl) (pgs_cons (pg_name (i := 5) scLaw.nd rfl (.inr rfl)) (pgs_cons (pg_name (i := 3) scLaw.nd rfl (.inl rfl)) pgs_nil))))
      (pss_cons (ps_par (i := 8) (j := 9) (by rfl) scLaw.nd rfl rfl (by decide) rfl rfl (pa_cons (pe_callB (call_showV hq hr.units) (by rfl) mp boot_repr (pa_cons (pv 5) pa_nil)) (pa_cons (pe_call OPn (hr.mono (by decide)) (by rfl) Pn.m Pn.F.kp Pn.b .nil pass0 (pa_cons (pv 5) (pa_cons (pv 3) pa_nil))) pa_nil)) (by rfl))
      (pss_cons (ps_setLc (i := 4) (own := [("_law_some", 10)]) (g := gName 10) (by rfl) scLaw.nd rfl rfl (sw_true rfl rfl rfl (by decide +kernel)) (pi_list (pv 9)) (blkOk_by (own := [("_law_some", 10)]) (N := nLaw) (sc := defScope (topS 60)) (by decide +kernel)) (fun _ _ _ _ _ => (pg_name (i := 10) scLaw.nd rfl (Or.inl rfl))) (fun _ _ _ _ _ => (pts_one (pt_val (pe_call OLc (hr.mono (by decide)) (by rfl) Lc.m Lc.F.kp Lc.b .nil pass0 (pa_cons (pv 5) (pa_cons (pv 10) pa_nil)))))) (fun _ _ _ _ _ => (pv 10)))
      (pss_cons (ps_if (pt_cmpR op_ne (pe_callB (call_showV hq hr.units) (by rfl) mp boot_repr (pa_cons (pe_lst (pa_cons (pe_call O1 (hr.mono (by decide)) (by rfl) A1.m A1.F.kp A1.b .nil passF (pa_cons (pv 5) (pa_cons (pv 3) pa_nil))) (pa_cons (pe_callK O1 (hr.mono (by decide)) (by rfl) A1.m A1.F.kp k1 passF (pk_cons (pv 3) (pk_cons (pv 5) pk_nil))) pa_nil))) pa_nil)) (pe_callB (call_showV hq hr.units) (by rfl) mp boot_repr (pa_cons (pe_op op_rep (pe_lst (pa_cons (pe_callTy call_tuple_of (by rfl) mt (by decide +kernel) (pa_cons (pv 4) pa_nil)) pa_nil)) pe_int) pa_nil)) (nomark _)) (pss_one (ps_ret pe_bl)) pss_nil)
      (pss_cons (ps_for PassesOwn.never rfl (pi_list (pv 9)) (pg_name (i := 10) scLaw.nd rfl (.inl rfl)) (pss_one (ps_if (pt_cmpR op_ne (pe_callB (call_showV hq hr.units) (by rfl) mp boot_repr (pa_cons (pe_call O2 (hr.mono (by decide)) (by rfl) A2.m A2.F.kp A2.b .nil passF (pa_cons (pv 5) (pa_cons (pv 3) (pa_cons (pv 10) pa_nil)))) pa_nil)) (pe_callB (call_showV hq hr.units) (by rfl) mp boot_repr (pa_cons (pe_cmpR (op_inLD hr.units) (pv 10) (pv 4) (by rfl)) pa_nil)) (nomark _)) (pss_one (ps_ret pe_bl)) pss_nil)))
      (pss_cons (ps_if (pt_cmpR op_isnot_bl (pe_call O2 (hr.mono (by decide)) (by rfl) A2.m A2.F.kp A2.b .nil passF (pa_cons (pv 5) (pa_cons (pv 3) (pa_cons (pe_call O3 (hr.mono (by decide)) (by rfl) A3.m A3.F.kp A3.b .nil passF (pa_cons (pv 5) (pa_cons (pv 3) pa_nil))) pa_nil)))) pe_bl (nomark _)) (pss_one (ps_ret pe_bl)) pss_nil)
      (pss_cons (ps_for PassesOwn.never rfl (pi_range1 (by rfl) mr (pa_cons pe_int pa_nil)) (pg_name (i := 11) scLaw.nd rfl (.inl rfl)) (pss_cons (ps_par (i := 12) (j := 13) (by rfl) scLaw.nd rfl rfl (by decide) rfl rfl (pa_cons (pe_call OA (hr.mono (by decide)) (by rfl) An.m An.F.kp An.b .nil pass0 (pa_cons (pv 1) (pa_cons (pv 4) pa_nil))) (pa_cons (pe_call OA (hr.mono (by decide)) (by rfl) An.m An.F.kp An.b .nil pass0 (pa_cons (pv 1) (pa_cons (pv 4) pa_nil))) pa_nil)) (by rfl))
      (pss_one (ps_if (pt_cmpR op_isnot_bl (pe_call O2 (hr.mono (by decide)) (by rfl) A2.m A2.F.kp A2.b .nil passF (pa_cons (pv 5) (pa_cons (pv 3) (pa_cons (pe_callTy call_tuple_of (by rfl) mt (by decide +kernel) (pa_cons (pe_callB (cr_sortedK (by rfl) hr.units) (by rfl) mo (by decide +kernel) (pa_cons (pe_callTy (cr_setKT (by rfl) hr.units) (by rfl) mse (by decide +kernel) (pa_cons (pe_op op_catA (pv 12) (pv 13)) pa_nil)) pa_nil)) pa_nil)) pa_nil)))) pe_bl (nomark _)) (pss_one (ps_ret pe_bl)) pss_nil))))
      (pss_one (ps_if (pt_cmpR op_ne (pe_callB (call_showV hq hr.units) (by rfl) mp boot_repr (pa_cons (pv 5) pa_nil)) (pv 8) (nomark _)) (pss_one (ps_ret pe_bl)) pss_nil))))))))))
      (pss_one (ps_ret pe_bl)))))))), ?_⟩
    refine asg_seq ⟨.ref a0, rfl, a0, ns0, rfl, hS, hl, fun f a ms H1 nf s1 fd1 => ?_⟩
    dsimp only [gName]
    refine seq_mid (fun σ G => ∃ (y2 y3 y4 : Option V), σ = [some (.ref a0), some (.ref f), y2, y3, y4, none, none, none, none, none, none, none, none, none] ∧ Same H1 G) ?_ ?_
    · rintro σ G ⟨y2, y3, y4, rfl, sG⟩
      have fdG := fd1.same sG
      obtain ⟨W, _⟩ := wsB_ok big_ok.w
      refine asg_seq ⟨(show 2 ≤ sizeLine by decide), fun L nL => ⟨L, .str "abcd", bigW, abcd, rfl, .inl (.inl upd_same), .inr ⟨rfl, rfl⟩, W, abcd_nm, fun v g G1 s1' pg nmd srt => ?_⟩⟩
      dsimp only [gName, List.set]
      have I := big_ok.is nmd
      have fdB := (fdG.same (same_new nL)).same s1'
      have gw := I.G
      have ascB := ascB_ok big_ok.asc
      refine ⟨v, rfl, cq_call pg (by decide) I.wi I.few (I.cf big_ok.nf) fun q1 z1 r1 G2 s2 e2 h2 o2 m2 => ⟨v, rfl, v, g, 5, rfl, pg.same s2, gw, by decide, by decide, fun q3 z3 r3 G3 s3 e3 h3 pr3 asc3 => ⟨_, _, rfl, ?_⟩⟩⟩
      obtain rfl : r3 = bigF := asc_eq asc3 ascB fun s => pr3.mem_iff.trans (I.mem s).symm
      have cnt := I.count ascB big_ok.falls o2 m2
      have lz1 : z1.length = 42 := by rw [dsLen h2, List.length_map, cnt]
      have lz3 : z3.length = 9 := h3.len
      have cl3 := greatest gw (p := 5) (by decide) I.mem ascB
      have in1 := (m2 _).mpr cl3
      have okB : ∀ s ∈ bigF, okP g s := closed_ok gw (by decide) cl3
      have gdT : goodD (.tuple (r1.map dTp)) = true := tps_good gw fun x hx => closed_ok gw (by decide) ((m2 x).mp hx)
      have niB := part_nice gw (x := bigF) (by decide) okB
      have e2' := s3 _ _ e2
      have h2' : DpAll K G3 z1 (r1.map dTp) := dsKeep s3 h2
      have d3 : Dp K G3 (.ref q3) (.tuple (bigF.map dPr)) := .tup (.inl (.inl e3)) h3.dp
      dsimp only [List.set]
      refine ⟨.ref q1, rfl, q1, z1, rfl, .inr (.inl (.inl e2')), rfl, _, rfl, ?_⟩
      rw [lz1, decide_eq_true (show V.int ((42 : Nat) : Int) = V.int 42 from rfl)]
      refine iteF ⟨.ref q3, rfl, q3, z3, rfl, .inr (.inl (.inl e3)), rfl, _, rfl, ?_⟩
      rw [lz3, decide_eq_true (show V.int ((9 : Nat) : Int) = V.int 9 from rfl)]
      refine iteF ⟨.ref q3, rfl, .ref q1, rfl, .tuple (bigF.map dPr), r1.map dTp, d3, .tup (.inl (.inl e2')) h2', good_shaped niB.g (by have := niB.dp; omega), good_shaped gdT (by have := deeps_le (qs := r1); show PyData.depthAll (r1.map dTp) + 1 ≤ 64; omega), by have := niB.dp; omega, _, rfl, ?_⟩
      rw [any_tp, decide_eq_true in1]
      refine iteF ⟨v, rfl, .ref q3, rfl, ic_call ((pg.same s2).same s3) gw (by decide) (by decide) d3 niB (by decide) (by rw [same_plan I.sw]; exact big_yes) fun G4 s4 => ⟨_, true, rfl, rfl, _, rfl, ?_⟩⟩
      rw [closed_yes cl3]
      refine iteF ?_
      have fd4 := ((fdB.same s2).same s3).same s4
      clear h2' h2 e2' e2 in1 cl3 okB gdT niB d3 m2 o2 cnt lz1 lz3 I pg nmd srt s2 s3 s4 s1' nL fdB gw ascB e3 h3 pr3 asc3
      refine ⟨2, rfl, by decide, by decide, for_range (lo := 0) (n := (2 : Int).toNat) (fun i σ J => ∃ (y2 y3 y4 y5 y6 y7 y8 y9 y10 y11 y12 y13 : Option V) (c : Nat), σ = [some (.ref a0), some (.ref f), y2, y3, y4, y5, y6, y7, y8, y9, y10, y11, y12, y13] ∧ c ≤ 200 * i ∧ Fd f a ms J c)
        ⟨_, _, _, _, _, _, _, _, _, _, _, _, 0, rfl, Nat.zero_le _, fd4⟩ ?_ ?_⟩
      · rintro i σ J hi ⟨y2, y3, y4, y5, y6, y7, y8, y9, y10, y11, y12, y13, c, rfl, lc, fdJ⟩
        have hi : i < 2 := hi
        refine asg_seq ⟨.ref f, rfl, f, a, ms, c, rfl, fdJ, by omega, fun pc v g pw J1 kp1 fdA ec pg C => ?_⟩
        have gw := C.gw
        have p0 := C.p0
        have p6 := C.p6
        have cf := C.few
        have wi : WiOk g pw := ⟨gw, .inl p6, by omega⟩
        have few10 : (foundP g pw).length ≤ 10 := by omega
        have wsh := web_show gw
        refine ⟨pc, _, rfl, .inl (.inl ec), rfl, _, _, rfl, _, _, rfl, rfl, ?_⟩
        dsimp only [gName, List.set]
        refine ⟨v, rfl, v, dWeb g, rfl, pg.dp, wsh.1, wsh.2.1, wsh.2.2.1, wsh.2.2.2, v, rfl, .int pw, rfl, v, g, pw, rfl, pg, C, fun l ys qs fs J2 s2 el hys pr asc mem lq ord => ⟨_, _, rfl, ?_⟩⟩
        have pg2 := pg.same s2
        have fd2 := fdA.same s2
        have memF : ∀ s, s ∈ fs ↔ s ∈ foundP g pw := fun s => pr.mem_iff
        have lots : ∀ x ∈ qs, LotAt g pw x := fun x hx => by
          obtain ⟨sub, lw⟩ := (mem x).mp hx
          exact lot_at C (List.Pairwise.sublist sub asc) (fun s hs => pr.mem_iff.mp (sub.subset hs)) lw
        have lotw : LotAt g pw fs := lot_at C asc (fun s hs => pr.mem_iff.mp hs) (whole_law C pr)
        have clw := greatest gw p6 memF asc
        have mD := fun X => due_mem C memF asc mem X
        have odD : OrdP (qs.filter fun x => closedB g x) := ⟨ord.1.sublist (List.filter_sublist ..), ord.2.sublist (List.filter_sublist ..)⟩
        have ly : ys.length = qs.length := by rw [dsLen hys, List.length_map]
        clear kp1 ec pg fdA s2 pr
        dsimp only [List.set]
        refine asg_seq ⟨.ref l, rfl, l, rfl, ⟨_, .inl (.inl el)⟩, fun D0 nD => ?_⟩
        refine lc_sel (walk_list (K := K) (a := l) (xs := ys)) (ys.zip qs) (fun c => if closedB g c.2 = true then some c.1 else none) nD (by rw [List.length_zip]; omega) (by omega) (fun G s => .inl (.inl (s _ _ el))) ?_ ?_
        · intro j x c G N Y hx hc sm no yes
          have hz := List.getElem?_zip_eq_some.mp hc
          obtain rfl : c.1 = x := Option.some.inj (hz.1.symm.trans hx)
          obtain ⟨dd, hdd, dp⟩ := dsAt hys j c.1 hx
          obtain ⟨ps, hps, rfl⟩ := map_get hdd
          obtain rfl : ps = c.2 := Option.some.inj (hps.symm.trans hz.2)
          obtain ⟨pp, zs, ep, hT, hds, _⟩ := tupD (dKeep sm dp)
          have lo := lots c.2 (List.mem_of_getElem? hps)
          have fw := lo.pt.few
          refine ⟨rfl, v, rfl, c.1, rfl, ?_⟩
          rw [ep]
          refine ⟨v, pp, g, zs, c.2, rfl, pg2.same sm, gw, hT, hds, by omega, lo.pt.each, fun G' s' => ⟨_, rfl, ?_⟩⟩
          cases z : closedB g c.2
          · rw [z] at no
            exact iteF (no G' s' rfl)
          · rw [z] at yes
            refine iteT ⟨.ref pp, rfl, ?_⟩
            rw [← ep]
            exact yes c.1 G' s' rfl
        · intro J3 s3 eD
          rw [fm_if] at eD
          have hyD : TupsAt K J3 (((ys.zip qs).filter fun c => closedB g c.2).map (·.1)) (qs.filter fun x => closedB g x) := tups_filt (k := closedB g) (show TupsAt K J3 ys qs from dsKeep s3 hys)
          have hys3 : TupsAt K J3 ys qs := dsKeep s3 hys
          have el3 := s3 _ _ el
          have pg3 := pg2.same s3
          have fd3 := fd2.same s3
          have inQ : ∀ x ∈ qs, x ∈ (qs.filter fun x => closedB g x) ↔ closedB g x = true := fun x hx => by
            rw [List.mem_filter]
            exact ⟨fun h => h.2, fun h => ⟨hx, h⟩⟩
          have lD : (qs.filter fun x => closedB g x).length ≤ 256 := Nat.le_trans (List.length_filter_le _ _) lq
          generalize ((ys.zip qs).filter fun c => closedB g c.2).map (·.1) = vD at eD hyD
          generalize (qs.filter fun x => closedB g x) = due at hyD mD odD inQ lD
          have inD : ∀ x ∈ due, x.length ≤ 8 ∧ ∀ s ∈ x, okP g s := fun x hx => by
            have cl := (mD x).mp hx
            have l1 := nodup_sub cl.asc.nd cl.sub
            exact ⟨by omega, closed_ok gw p6 cl⟩
          clear hys el pg2 fd2 s3 nD
          have lvD : vD.length = due.length := by rw [dsLen hyD, List.length_map]
          have dpos : 0 < due.length := List.length_pos_of_mem ((mD fs).mpr clw)
          have shD := pair_show gw inD lD
          have dpD : Dp K J3 (.ref D0) (.list (due.map dTp)) := dp_lst eD hyD
          dsimp only [gName, List.set]
          -- closed_plans twice
          refine ⟨v, rfl, .int pw, rfl, cq_call pg3 p0 wi few10 (closedC_few C) fun q1 z1 r1 K1 t1 e1 h1 o1 m1 => ⟨.int pw, rfl, v, rfl, rfl, cq_call (pg3.same t1) p0 wi few10 (closedC_few C) fun q2 z2 r2 K2 t2 e2 h2 o2 m2 => ⟨(show 2 ≤ sizeLine by decide), fun L nL => ?_⟩⟩⟩
          obtain rfl : r1 = due := ord_eq o1 odD fun X => (m1 X).trans (mD X).symm
          obtain rfl : r2 = r1 := ord_eq o2 odD fun X => (m2 X).trans (mD X).symm
          have tL := same_new (o := .lst [.ref q1, .ref q2]) nL
          have eDL := tL _ _ (t2 _ _ (t1 _ _ eD))
          have hDL : DpAll K (upd K2 L (.lst [.ref q1, .ref q2])) vD (r2.map dTp) := dsKeep tL (dsKeep t2 (dsKeep t1 hyD))
          refine ⟨.ref L, .list [.tuple (r2.map dTp), .tuple (r2.map dTp)], rfl, dp_lst upd_same (.cons (dKeep (t2.trans tL) (.tup (.inl (.inl e1)) h1)) (.cons (dKeep tL (.tup (.inl (.inl e2)) h2)) .nil)), shD.s, shD.h, shD.dp, shD.ln, .ref D0, rfl, D0, _, rfl, .inl ⟨.inl (.inl eDL), fun t nt => ⟨(show 1 ≤ sizeLine by decide), fun L2 nL2 => ⟨L2, 2, [.ref t], rfl, rfl, upd_same, by decide, by decide, (show 2 ≤ sizeLine by decide), fun p np => ?_⟩⟩⟩⟩
          rw [show (List.replicate (Int.toNat 2) [V.ref t]).flatten = [V.ref t, V.ref t] from rfl]
          have tt := same_new (o := .tup vD) nt
          have t4 := same_new (o := .lst [.ref t]) nL2
          have t5 := same_new (o := .lst [.ref t, .ref t]) np
          have dt := dKeep (t4.trans t5) (show Dp K _ (.ref t) (.tuple (r2.map dTp)) from .tup (.inl (.inl upd_same)) (dsKeep tt hDL))
          refine ⟨.ref p, .list [.tuple (r2.map dTp), .tuple (r2.map dTp)], rfl, dp_lst upd_same (.cons dt (.cons dt .nil)), shD.s, shD.h, shD.dp, shD.ln, rfl, _, rfl, ?_⟩
          rw [decide_eq_true rfl]
          refine iteF ?_
          have sA := ((((t1.trans t2).trans tL).trans tt).trans t4).trans t5
          have eD4 := sA _ _ eD
          have el4 := sA _ _ el3
          have hyD4 : TupsAt K _ vD r2 := dsKeep sA hyD
          have hys4 : TupsAt K _ ys qs := dsKeep sA hys3
          have pg4 := pg3.same sA
          have fd4 := fd3.same sA
          generalize upd (upd (upd (upd K2 L (.lst [.ref q1, .ref q2])) t (.tup vD)) L2 (.lst [.ref t])) p (.lst [.ref t, .ref t]) = J4 at eD4 el4 hyD4 hys4 pg4 fd4 ⊢
          clear dt t5 t4 tt sA hDL eDL tL h2 e2 t2 h1 e1 t1 o1 m1 o2 m2 np nL2 nt nL eD el3 hyD hys3 pg3 fd3 dpD
          have gdD : PyData.canLayAll0 (r2.map dTp) = true := tp_laysAll (tps_good gw fun x hx => (inD x hx).2)
          dsimp only [tNext]
          refine seq_mid (fun σ G => ∃ (y2 y6 y10 y11 y12 y13 : Option V), σ = [some (.ref a0), some (.ref f), y2, some (.int pw), some (.ref D0), some v, y6, some (.int (0 + (i : Int))), some (.str (dWeb g).shown), some (.ref l), y10, y11, y12, y13] ∧ Same J4 G) ?_ ?_
          · rintro σ G ⟨y2, y6, y10, y11, y12, y13, rfl, sG⟩
            have pgG := pg4.same sG
            have niF := part_nice gw (x := fs) (by have := lotw.pt.few; omega) lotw.pt.each
            refine ⟨v, rfl, .int pw, rfl, v, rfl, .int pw, rfl, ps_call pgG p0 wi fun qa za ra G5 s5 e5 h5 asc5 mem5 => ?_⟩
            obtain rfl : ra = fs := asc_eq asc5 asc fun s => (mem5 s).trans (memF s).symm
            refine ic_call (pgG.same s5) gw p0 p6 (.tup (.inl (.inl e5)) h5.dp) niF (by have := lotw.pt.few; omega) lotw.yes fun G6 s6 => ⟨_, true, rfl, rfl, _, rfl, ?_⟩
            rw [closed_yes clw]
            refine iteF ?_
            dsimp only [tNext]
            have sG6 := (sG.trans s5).trans s6
            have eD6 := sG6 _ _ eD4
            have hyD6 : TupsAt K G6 vD r2 := dsKeep sG6 hyD4
            have fd6 := fd4.same sG6
            have pg6 := pg4.same sG6
            clear sG s5 s6 e5 h5 asc5 mem5 pgG sG6
            refine seq_mid (fun σ G => ∃ (y2 y6 y10 y11 y12 y13 : Option V) (cc : Nat), σ = [some (.ref a0), some (.ref f), y2, some (.int pw), some (.ref D0), some v, y6, some (.int (0 + (i : Int))), some (.str (dWeb g).shown), some (.ref l), y10, y11, y12, y13] ∧ TS G6 G ∧ cc ≤ c + 60 + 24 ∧ Fd f a ms G cc) ?_ ?_
            · rintro σ G ⟨y2, y6, y10, y11, y12, y13, cc, rfl, tG, lcc, fdG⟩
              refine ⟨v, rfl, v, dWeb g, rfl, (pg6.ts tG).dp, wsh.1, wsh.2.1, wsh.2.2.1, wsh.2.2.2, _, rfl, rfl, _, rfl, ?_⟩
              rw [decide_eq_true rfl]
              exact iteF ⟨_, _, _, _, _, _, _, _, _, _, _, _, cc, rfl, by omega, fdG⟩
            · intro R k
              refine ⟨12, rfl, by decide, by decide, for_range (lo := 0) (n := (12 : Int).toNat) (fun j σ G => ∃ (y2 y6 y10 y11 y12 y13 : Option V) (cc : Nat), σ = [some (.ref a0), some (.ref f), y2, some (.int pw), some (.ref D0), some v, y6, some (.int (0 + (i : Int))), some (.str (dWeb g).shown), some (.ref l), y10, y11, y12, y13] ∧ TS G6 G ∧ cc ≤ c + 60 + 2 * j ∧ G D0 = some (.lst vD) ∧ Fd f a ms G cc)
                ⟨_, _, _, _, _, _, c + 60, rfl, TS.refl _, Nat.le_refl _, eD6, fd6⟩ ?_ ?_⟩
              · rintro j σ G hj ⟨y2, y6, y10, y11, y12, y13, cc, rfl, tG, lcc, eDG, fdG⟩
                have hj : j < 12 := hj
                dsimp only [gName, List.set]
                refine ⟨.ref f, rfl, .ref D0, rfl, f, a, D0, ms, cc, vD, rfl, fdG, by omega, .inl (.inl eDG), by omega, by omega, fun x1 G1 hx1 kk1 f1 => ⟨.ref f, rfl, .ref D0, rfl, f, a, D0, ms, cc + 1, vD, rfl, f1, by omega, .inl (.inl (lst_fd eDG fdG kk1)), by omega, by omega, fun x2 G2 hx2 kk2 f2 => ⟨_, _, rfl, ?_⟩⟩⟩
                have eD2 := lst_fd (lst_fd eDG fdG kk1) f1 kk2
                have t2 := (tG.trans (ts_fd fdG kk1)).trans (ts_fd f1 kk2)
                have hyG := dp_tups t2 hyD6
                clear kk1 kk2 f1 fdG eDG tG
                obtain ⟨i1, hi1⟩ := List.mem_iff_getElem?.mp hx1
                obtain ⟨i2, hi2⟩ := List.mem_iff_getElem?.mp hx2
                obtain ⟨d1, hd1, dp1⟩ := dsAt hyG i1 _ hi1
                obtain ⟨d2, hd2, dp2⟩ := dsAt hyG i2 _ hi2
                obtain ⟨p1, hp1, rfl⟩ := map_get hd1
                obtain ⟨p2, hp2, rfl⟩ := map_get hd2
                have cl1 := (mD p1).mp (List.mem_of_getElem? hp1)
                have cl2 := (mD p2).mp (List.mem_of_getElem? hp2)
                have l1 := (inD p1 (List.mem_of_getElem? hp1)).1
                have l2 := (inD p2 (List.mem_of_getElem? hp2)).1
                dsimp only [gName, List.set]
                refine ⟨v, rfl, .int pw, rfl, x1, rfl, x2, rfl, ?_⟩
                refine catA (K := K) dp1 dp2 (by rw [List.length_map, List.length_map]; omega) fun r3 G3 s3 d3 => ?_
                have d3 : Dp K G3 r3 (.tuple ((p1 ++ p2).map dPr)) := by
                  rw [List.map_append]
                  exact d3
                obtain ⟨p3, xs3, rfl, hT3, hd3, lx3⟩ := tupD d3
                obtain ⟨cs, rfl, ecs, pcs⟩ := pcs_ofK hd3
                have lcs : cs.length = p1.length + p2.length := by
                  have z := congrArg List.length ecs
                  rw [List.length_append, List.length_map] at z
                  exact z.symm
                refine ⟨p3, cs.map pcD, rfl, ?_, fun p hp => ?_, ?_, fun aa qq na2 sub all nd => ?_⟩
                · rw [List.map_map]
                  exact hT3
                · obtain ⟨cc', hc, rfl⟩ := List.mem_map.mp hp
                  exact pc_dpK (pcs cc' hc)
                · rw [List.length_map]
                  omega
                dsimp only [tNil]
                refine sorted_endF pcs na2 sub all nd fun lz vz rs Hz sz ez hz ascr memr => ?_
                refine ⟨lz, _, rfl, .inl ⟨.inl (.inl ez), fun p4 np4 => ?_⟩⟩
                have s4 := sz.trans (same_new (o := .tup vz) np4)
                have e4 : (upd Hz p4 (.tup vz)) p4 = some (.tup vz) := upd_same
                have h4 := dsKeep (same_new (o := .tup vz) np4) hz
                generalize upd Hz p4 (.tup vz) = G4 at s4 e4 h4 ⊢
                rw [← ecs] at memr
                have s34 := s3.trans s4
                have clr := closed_join gw cl1 cl2 ascr memr
                have lor := lot_at C ascr clr.sub (led_law gw clr.led clr.sub)
                have lfr := lor.pt.few
                refine ic_call ((pg6.ts t2).same s34) gw p0 p6 (.tup (.inl (.inl e4)) h4) (part_nice gw (by omega) lor.pt.each) (by omega) lor.yes fun G7 s7 => ⟨_, true, rfl, rfl, _, rfl, ?_⟩
                rw [closed_yes clr]
                refine iteF ?_
                have s37 := s34.trans s7
                exact ⟨_, _, _, _, _, _, cc + 1 + 1, rfl, t2.trans (ts_same s37), by omega, s37 _ _ eD2, f2.same s37⟩
              · rintro σ G ⟨y2, y6, y10, y11, y12, y13, cc, rfl, tG, lcc, _, fdG⟩
                exact k _ _ ⟨_, _, _, _, _, _, cc, rfl, tG, by omega, fdG⟩
          · intro R k
            refine ⟨.ref l, rfl, l, rfl, ⟨_, .inl (.inl el4)⟩, ?_⟩
            refine for_it (walk_list (K := K) (a := l) (xs := ys)) (fun j σ G => ∃ (y2 y6 y10 y11 y12 y13 : Option V), σ = [some (.ref a0), some (.ref f), y2, some (.int pw), some (.ref D0), some v, y6, some (.int (0 + (i : Int))), some (.str (dWeb g).shown), some (.ref l), y10, y11, y12, y13] ∧ Same J4 G) ⟨_, _, _, _, _, _, rfl, Same.refl _⟩ (fun j σ G _ ⟨_, _, _, _, _, _, _, z⟩ => .inl (.inl (z _ _ el4))) ?_ ?_
            · rintro j x σ G0 G hj ⟨y2, y6, y10, y11, y12, y13, rfl, sG⟩ ⟨rfl, hx⟩
              obtain ⟨dd, hdd, dpx⟩ := dsAt (dsKeep sG hys4) j x hx
              obtain ⟨xq, hq, rfl⟩ := map_get hdd
              have hxq := List.mem_of_getElem? hq
              have lot := lots xq hxq
              have fw := lot.pt.few
              have nx := part_nice gw (x := xq) (by omega) lot.pt.each
              have shb := show_bool (closedB g xq)
              have e : ((r2.map dTp).any fun z => PyData.eqv z (.tuple (xq.map dPr))) = closedB g xq := by
                rw [any_tp, Bool.eq_iff_iff, decide_eq_true_iff]
                exact inQ xq hxq
              dsimp only [gName, List.set]
              refine ⟨v, rfl, .int pw, rfl, x, rfl, ic_call (pg4.same sG) gw p0 p6 dpx nx (by omega) lot.yes fun G1 s1 => ⟨.bl (closedB g xq), .bool (closedB g xq), rfl, .bl _, shb.s, shb.h, shb.dp, shb.ln, x, rfl, .ref D0, rfl, .tuple (xq.map dPr), r2.map dTp, dKeep s1 dpx, dKeep (sG.trans s1) (dp_lst eD4 hyD4), good_shaped nx.g (by have := nx.dp; omega), gdD, by have := nx.dp; omega, ?_⟩⟩
              rw [e, Bool.bne_false]
              refine ⟨.bl (closedB g xq), .bool (closedB g xq), rfl, .bl _, shb.s, shb.h, shb.dp, shb.ln, rfl, _, rfl, ?_⟩
              rw [decide_eq_true rfl]
              exact iteF ⟨_, _, _, _, _, _, rfl, sG.trans s1⟩
            · rintro σ G ⟨y2, y6, y10, y11, y12, y13, rfl, sG⟩
              exact k _ _ ⟨_, _, _, _, _, _, rfl, sG⟩
      · rintro σ J _
        exact q _
    · intro R k
      refine ⟨rfl, fun l ys H2 s2 el dh => ⟨l, rfl, ⟨_, .inl (.inl el)⟩, ?_⟩⟩
      refine for_it (walk_list (K := K) (a := l) (xs := ys)) (fun i σ G => ∃ (y2 y3 y4 : Option V), σ = [some (.ref a0), some (.ref f), y2, y3, y4, none, none, none, none, none, none, none, none, none] ∧ Same H2 G) ⟨none, none, none, rfl, Same.refl _⟩ (fun i σ G _ ⟨_, _, _, _, z⟩ => .inl (.inl (z _ _ el))) ?_ ?_
      · rintro i x σ G0 G hi ⟨y2, y3, y4, rfl, sG⟩ ⟨rfl, hx⟩
        obtain ⟨d, hd, dp⟩ := dsAt dh i x hx
        obtain ⟨h, hh, rfl⟩ := map_get hd
        have ok := hands_ok h (List.mem_of_getElem? hh)
        have words := hand_words ok
        have okln := ok.ln
        obtain ⟨W, _⟩ := wsB_ok ok.w.w
        obtain ⟨pt, xs, rfl, hT, hds, lx⟩ := tupD (dKeep sG dp)
        obtain ⟨va, vb, vc, rfl⟩ : ∃ va vb vc, xs = [va, vb, vc] := by
          match xs, lx with
          | [a, b, c], _ => exact ⟨a, b, c, rfl⟩
        obtain ⟨rfl, rfl, dpc⟩ : va = .str h.tx ∧ vb = .int h.p ∧ Dp K G vc (.tuple (h.due.map dTp)) := by
          cases hds with
          | cons a hds =>
            cases hds with
            | cons b hds =>
              cases hds with
              | cons c _ =>
                cases a
                cases b
                exact ⟨rfl, rfl, c⟩
        refine ⟨pt, _, rfl, hT, rfl, _, _, rfl, _, _, rfl, _, _, rfl, rfl, ?_⟩
        dsimp only [gName, List.set]
        refine ⟨_, rfl, ⟨_, rfl⟩, _, _, rfl, rfl, rfl, Nat.le_trans (show h.tx.length + 2 ≤ 1000 by omega) (by decide), fun L nL => ?_⟩
        rw [words]
        have sL := same_new (o := .lst (h.ws.map V.str)) nL
        have eL : (upd G L (.lst (h.ws.map V.str))) L = some (.lst (h.ws.map V.str)) := upd_same
        generalize upd G L (.lst (h.ws.map V.str)) = G1 at sL eL ⊢
        refine ⟨L, .str "abcd", h.ws, abcd, rfl, .inl (.inl eL), .inr ⟨rfl, rfl⟩, W, abcd_nm, fun v g G2 s2' pg nmd srt => ?_⟩
        have I := ok.w.is nmd
        refine ⟨.int h.p, rfl, cq_call pg ok.w.pb.1 I.wi I.few (I.cf ok.w.nf) fun q9 zs rs G3 s3 e3 h3 od mem => ?_⟩
        obtain rfl : rs = h.due := hand_due ok nmd od mem
        have sh : ShowD (.tuple (h.due.map dTp)) := show_of ok.nice.1 (by have := deeps_le (qs := h.due); show PyData.depthAll (h.due.map dTp) + 1 ≤ 20; omega) (by have := ok.nice.2; show 1 + nodesDs (h.due.map dTp) ≤ 60000; omega)
        have sA := (sL.trans s2').trans s3
        refine ⟨.ref q9, .tuple (h.due.map dTp), rfl, .tup (.inl (.inl e3)) h3, sh.s, sh.h, sh.dp, sh.ln, vc, rfl, vc, _, rfl, dKeep sA dpc, sh.s, sh.h, sh.dp, sh.ln, rfl, _, rfl, ?_⟩
        rw [decide_eq_true rfl]
        exact iteF ⟨_, _, _, rfl, sG.trans sA⟩
      · rintro σ G ⟨y2, y3, y4, rfl, sG⟩
        exact k _ _ ⟨y2, y3, y4, rfl, s2.trans sG⟩
end
end Kn


namespace Kn
open PySem PySem.Spec PyProof.Rows L2 LamX
/-! ### what the top has written -/
def At (K : PySem.W.Frag) (x : Str) (i : Nat) : Prop := ∃ (f : Addr) (oc : Value) (od an : Option Addr) (sl : Array (Option Value)) (kV dc pm cd ct : Value),
  PySem.W.nsIn K mainGlobals x = some (some (.ref f)) ∧ K.lookup f = some ⟨oc, od, .func (PySem.W.fnOf x x (defArgs (topS i)) (defBody (topS i)) (defScope (topS i)) .none kV dc pm an cd ct), sl⟩ ∧ PySem.W.codeIn K cd x = true ∧ PySem.W.keepIn K (.ref f) = true
theorem at_mk {K : PySem.W.Frag} {x : Str} {i : Nat} {f : Addr} {oc kV dc pm cd ct : Value} {od an : Option Addr} {sl : Array (Option Value)} (a : PySem.W.nsIn K mainGlobals x = some (some (.ref f)))
    (l : K.lookup f = some ⟨oc, od, .func (PySem.W.fnOf x x (defArgs (topS i)) (defBody (topS i)) (defScope (topS i)) .none kV dc pm an cd ct), sl⟩) (c : PySem.W.codeIn K cd x = true) (k : PySem.W.keepIn K (.ref f) = true) : At K x i :=
  ⟨f, oc, od, an, sl, kV, dc, pm, cd, ct, a, l, c, k⟩
/-- a def that makes lambdas: its code object and its table -/
structure AtC (K : PySem.W.Frag) (x : Str) (i : Nat) (c T0 : Addr) : Prop where
  ex : ∃ (f : Addr) (oc : Value) (od an : Option Addr) (sl : Array (Option Value)) (kV dc pm ct : Value),
    PySem.W.nsIn K mainGlobals x = some (some (.ref f)) ∧ K.lookup f = some ⟨oc, od, .func (PySem.W.fnOf x x (defArgs (topS i)) (defBody (topS i)) (defScope (topS i)) .none kV dc pm an (.ref c) ct), sl⟩ ∧ PySem.W.codeIn K (.ref c) x = true ∧ PySem.W.keepIn K (.ref f) = true
  tab : PySem.W.tabIn K x = some (c, T0)
theorem atC_mk {K : PySem.W.Frag} {x : Str} {i : Nat} {f c T0 : Addr} {oc kV dc pm ct oc2 : Value} {od an od2 : Option Addr} {sl sl2 : Array (Option Value)} {us : Array Value} (a : PySem.W.nsIn K mainGlobals x = some (some (.ref f)))
    (l : K.lookup f = some ⟨oc, od, .func (PySem.W.fnOf x x (defArgs (topS i)) (defBody (topS i)) (defScope (topS i)) .none kV dc pm an (.ref c) ct), sl⟩) (e : PySem.W.codeIn K (.ref c) x = true) (k : PySem.W.keepIn K (.ref f) = true)
    (l2 : K.lookup c = some ⟨oc2, od2, .fields us, sl2⟩) (v : us[11]? = some (.ref T0)) : AtC K x i c T0 := by
  refine ⟨⟨f, oc, od, an, sl, kV, dc, pm, ct, a, l, e, k⟩, ?_⟩
  unfold PySem.W.tabIn
  rw [a]
  dsimp only
  rw [l]
  dsimp only [PySem.W.fnOf]
  rw [l2]
  dsimp only
  rw [v]
/-- an error class, asked of from D -/
theorem asked_mk {K : PySem.W.Frag} {mg : Str → Option Value} {h : Heap} {x : Str} {C D : Addr} {b : Bool} (X : K.In h) (G : h.Ns mainGlobals mg) (a : PySem.W.nsIn K mainGlobals x = some (some (.ref C))) (c : PySem.W.isClsIn K C = true) (t : PySem.W.typeIn K (.ref C) = some (.type "type"))
    (s : PySem.W.subIn K (.ref D) (.ref C) = some b) (n : (Value.ref D == Value.ref C) = false ∨ b = true) : Asked K mg x D b := by
  refine ⟨C, PySem.W.mg_of X G a, ?_⟩
  unfold PySem.W.kitOne
  by_cases q : (Value.ref D == Value.ref C) = true
  · rw [if_pos q]
    rcases n with n | n
    · rw [n] at q
      cases q
    · rw [n]
  · rw [if_neg q]
    have c2 : (PySem.W.clsIn K C).isSome = true := c
    have e : ((PySem.W.clsIn K C).isSome && PySem.W.typeIn K (.ref C) == some (.type "type")) = true := by
      rw [c2, t]
      rfl
    show (if ((PySem.W.clsIn K C).isSome && PySem.W.typeIn K (.ref C) == some (.type "type")) = true then PySem.W.subIn K (.ref D) (.ref C) else none) = some b
    rw [if_pos e]
    exact s
theorem tab_out {K : PySem.W.Frag} {h : Heap} {T0 : Addr} (X : K.In h) (n : PySem.W.noTabs K = true) (t : h.get? T0 = some { cls := .none, data := .fields #[] }) : K.lookup T0 = none := by
  cases e : K.lookup T0 with
  | none => rfl
  | some o =>
    have y := X _ _ e
    rw [t] at y
    cases y
    have z := List.all_eq_true.mp n _ (PySem.W.mem_of_lookupK e)
    exact absurd (show false = true from z) Bool.false_ne_true
section
variable {K : PySem.W.Frag} {mg : Str → Option Value} {h : Heap} {x y : Str} {i : Nat} {ps : List Str}
theorem def_of (X : K.In h) (G : h.Ns mainGlobals mg) (t : At K x i)
    (b : ∀ (kV doc pm : Value) (an : Option Addr) (cdv ct : Value) (us : List Value), us.length = ps.length → bindArgs (PySem.W.fnOf x x (defArgs (topS i)) (defBody (topS i)) (defScope (topS i)) .none kV doc pm an cdv ct) ⟨us, []⟩ = pure (ps.zip us)) :
    ∃ f fd, Def K mg x i ps f fd := by
  obtain ⟨f, oc, od, an, sl, kV, dc, pm, cd, ct, a, l, c, k⟩ := t
  have F := fun_mk (st := topS i) l c k
  exact ⟨f, _, F, F.binds b, PySem.W.mg_of X G a⟩
theorem vals_rev : ∀ {zs : List V} {ws : List Value}, Vals zs ws → Vals zs.reverse ws.reverse
  | _, _, .nil => .nil
  | _, _, .cons a b => by
    rw [List.reverse_cons, List.reverse_cons]
    exact (vals_rev b).append (.cons a .nil)
theorem kw_of38 (X : K.In h) (G : h.Ns mainGlobals mg) (t : At K x i)
    (b : ∀ (kV doc pm : Value) (an : Option Addr) (cdv ct : Value) (us : List Value), us.length = (["web", "marks"] : List Str).length → bindArgs (PySem.W.fnOf x x (defArgs (topS i)) (defBody (topS i)) (defScope (topS i)) .none kV doc pm an cdv ct) ⟨us, []⟩ = pure ((["web", "marks"] : List Str).zip us))
    (b1 : ∀ (kV doc pm : Value) (an : Option Addr) (cdv ct u v : Value), bindArgs (PySem.W.fnOf x x (defArgs (topS i)) (defBody (topS i)) (defScope (topS i)) .none kV doc pm an cdv ct) ⟨[], [(("marks" : Str), u), (("web" : Str), v)]⟩ = pure [(("web" : Str), v), (("marks" : Str), u)]) :
    ∃ f fd, Def K mg x i ["web", "marks"] f fd ∧ KBn K fd ["web", "marks"] 0 ["marks", "web"] (fun _ us => us.reverse) (fun _ zs => zs.reverse) := by
  obtain ⟨f, oc, od, an, sl, kV, dc, pm, cd, ct, a, l, c, k⟩ := t
  have F := fun_mk (st := topS i) l c k
  refine ⟨f, _, ⟨F, F.binds b, PySem.W.mg_of X G a⟩, ⟨fun s us ws _ h0 h3 => ?_, fun _ h => vals_rev h⟩⟩
  match us, ws, h0, h3 with
  | [], [u, v], _, _ => exact .of_eq (b1 _ _ _ _ _ _ u v)
end
section
variable {K : PySem.W.Frag} {mg mb : Str → Option Value} {h : Heap} {l : PySem.W.OpenLaw} {w : World} {fa c T0 D DU CL gI gU : Addr} {fdI fdU : FuncData} {d : DefRec} {q : Program} {loose : List Str} {mean : ExcName → Option Value}
theorem all_mk (X : K.In h) (G : h.Ns mainGlobals mg) (hfa : mg "law" = some (.ref fa))
    (EM : ErrM K mg D gI fdI) (EU : ErrU K mg DU gU fdU)
    (t7 : At K "is_pair" 7)
    (t8 : At K "ascending" 8)
    (t10 : At K "is_integer" 10)
    (t11 : At K "is_number" 11)
    (t12 : At K "is_name" 12)
    (t13 : At K "is_store" 13)
    (t15 : At K "names_of" 15)
    (t16 : At K "form_of" 16)
    (t17 : At K "fee_of" 17)
    (t18 : At K "table_of" 18)
    (t19 : At K "can_send" 19)
    (t21 : At K "check_marks" 21)
    (t23 : At K "is_pair_of" 23)
    (t24 : At K "leavings" 24)
    (t25 : At K "least_plan" 25)
    (t26 : At K "followers" 26)
    (t27 : At K "widest_pairs" 27)
    (t28 : At K "check_plan" 28)
    (t29 : At K "is_plan_of" 29)
    (t30 : At K "check_made_plan" 30)
    (t31 : At K "kinds_in" 31)
    (t32 : At K "near_in" 32)
    (t33 : At K "quiet_in" 33)
    (t34 : At K "open_kind" 34)
    (t35 : At K "closed_within" 35)
    (t36 : At K "pairs_of" 36)
    (t37 : At K "is_closed" 37)
    (t38 : At K "closed_plans" 38)
    (t40 : At K "_law_feed" 40)
    (t41 : At K "_law_draw" 41)
    (t42 : At K "_law_any" 42)
    (t43 : At K "_law_kind" 43)
    (t44 : At K "_law_left" 44)
    (t45 : At K "_law_can_send" 45)
    (t46 : At K "_law_pairs" 46)
    (t47 : At K "_law_scenes" 47)
    (t48 : At K "_law_named" 48)
    (t49 : At K "_law_drawn" 49)
    (t50 : At K "_law_case" 50)
    (t51 : At K "_law_led" 51)
    (t52 : At K "_law_is_plan" 52)
    (t53 : At K "_law_subsets" 53)
    (t54 : At K "_law_plans" 54)
    (t55 : At K "_law_near" 55)
    (t56 : At K "_law_quiet" 56)
    (t57 : At K "_law_kinds" 57)
    (t58 : At K "_law_is_closed" 58)
    (t59 : At K "_law_by_hand" 59)
    (t60 : At K "law" 60)
    (z1 : PySem.W.nsIn K mainGlobals "len" = some none)
    (z2 : PySem.W.nsIn K mainGlobals "int" = some none)
    (z3 : PySem.W.nsIn K mainGlobals "range" = some none)
    (z4 : PySem.W.nsIn K mainGlobals "sorted" = some none)
    (z5 : PySem.W.nsIn K mainGlobals "tuple" = some none)
    (z6 : PySem.W.nsIn K mainGlobals "isinstance" = some none)
    (z7 : PySem.W.nsIn K mainGlobals "repr" = some none)
    (z8 : PySem.W.nsIn K mainGlobals "str" = some none)
    (z9 : PySem.W.nsIn K mainGlobals "enumerate" = some none)
    (z10 : PySem.W.nsIn K mainGlobals "list" = some none)
    (z11 : PySem.W.nsIn K mainGlobals "bool" = some none)
    (z12 : PySem.W.nsIn K mainGlobals "dict" = some none)
    (z13 : PySem.W.nsIn K mainGlobals "set" = some none)
    (z14 : PySem.W.nsIn K mainGlobals "any" = some none)
    : ∃ fd : FuncData, (∀ (s : Shared) (v : Value), BindsTo s fd ⟨[v], []⟩ [("_law_script", v)]) ∧ ∀ base : Heap, K.In base → base.Ns mainGlobals mg → Vow l.prog w K mg base 10 fa fd ["_law_script"] (spLaw K) := by
  obtain ⟨f7, d7, D7⟩ := def_of (mg := mg) (ps := ["thing"]) X G t7 (fun _ _ _ _ _ _ us hl => match us, hl with | [_], _ => rfl)
  obtain ⟨f8, d8, D8⟩ := def_of (mg := mg) (ps := ["things"]) X G t8 (fun _ _ _ _ _ _ us hl => match us, hl with | [_], _ => rfl)
  obtain ⟨f10, d10, D10⟩ := def_of (mg := mg) (ps := ["thing"]) X G t10 (fun _ _ _ _ _ _ us hl => match us, hl with | [_], _ => rfl)
  obtain ⟨f11, d11, D11⟩ := def_of (mg := mg) (ps := ["thing"]) X G t11 (fun _ _ _ _ _ _ us hl => match us, hl with | [_], _ => rfl)
  obtain ⟨f12, d12, D12⟩ := def_of (mg := mg) (ps := ["thing"]) X G t12 (fun _ _ _ _ _ _ us hl => match us, hl with | [_], _ => rfl)
  obtain ⟨f13, d13, D13⟩ := def_of (mg := mg) (ps := ["thing"]) X G t13 (fun _ _ _ _ _ _ us hl => match us, hl with | [_], _ => rfl)
  obtain ⟨f15, d15, D15⟩ := def_of (mg := mg) (ps := ["web"]) X G t15 (fun _ _ _ _ _ _ us hl => match us, hl with | [_], _ => rfl)
  obtain ⟨f16, d16, D16⟩ := def_of (mg := mg) (ps := ["web", "kind"]) X G t16 (fun _ _ _ _ _ _ us hl => match us, hl with | [_, _], _ => rfl)
  obtain ⟨f17, d17, D17⟩ := def_of (mg := mg) (ps := ["web", "kind"]) X G t17 (fun _ _ _ _ _ _ us hl => match us, hl with | [_, _], _ => rfl)
  obtain ⟨f18, d18, D18⟩ := def_of (mg := mg) (ps := ["web", "kind"]) X G t18 (fun _ _ _ _ _ _ us hl => match us, hl with | [_, _], _ => rfl)
  obtain ⟨f19, d19, D19⟩ := def_of (mg := mg) (ps := ["web", "kind", "mark"]) X G t19 (fun _ _ _ _ _ _ us hl => match us, hl with | [_, _, _], _ => rfl)
  obtain ⟨f21, d21, D21⟩ := def_of (mg := mg) (ps := ["marks"]) X G t21 (fun _ _ _ _ _ _ us hl => match us, hl with | [_], _ => rfl)
  obtain ⟨f23, d23, D23⟩ := def_of (mg := mg) (ps := ["web", "marks", "thing"]) X G t23 (fun _ _ _ _ _ _ us hl => match us, hl with | [_, _, _], _ => rfl)
  obtain ⟨f24, d24, D24⟩ := def_of (mg := mg) (ps := ["web", "pairs"]) X G t24 (fun _ _ _ _ _ _ us hl => match us, hl with | [_, _], _ => rfl)
  obtain ⟨f25, d25, D25⟩ := def_of (mg := mg) (ps := ["web", "marks"]) X G t25 (fun _ _ _ _ _ _ us hl => match us, hl with | [_, _], _ => rfl)
  obtain ⟨f26, d26, D26⟩ := def_of (mg := mg) (ps := ["web", "plan"]) X G t26 (fun _ _ _ _ _ _ us hl => match us, hl with | [_, _], _ => rfl)
  obtain ⟨f27, d27, D27⟩ := def_of (mg := mg) (ps := ["web", "marks", "without"]) X G t27 (fun _ _ _ _ _ _ us hl => match us, hl with | [_, _, _], _ => rfl)
  obtain ⟨f28, d28, D28⟩ := def_of (mg := mg) (ps := ["web", "marks", "thing"]) X G t28 (fun _ _ _ _ _ _ us hl => match us, hl with | [_, _, _], _ => rfl)
  obtain ⟨f29, d29, D29⟩ := def_of (mg := mg) (ps := ["web", "marks", "thing"]) X G t29 (fun _ _ _ _ _ _ us hl => match us, hl with | [_, _, _], _ => rfl)
  obtain ⟨f30, d30, D30⟩ := def_of (mg := mg) (ps := ["web", "marks", "plan"]) X G t30 (fun _ _ _ _ _ _ us hl => match us, hl with | [_, _, _], _ => rfl)
  obtain ⟨f31, d31, D31⟩ := def_of (mg := mg) (ps := ["plan"]) X G t31 (fun _ _ _ _ _ _ us hl => match us, hl with | [_], _ => rfl)
  obtain ⟨f32, d32, D32⟩ := def_of (mg := mg) (ps := ["web", "plan"]) X G t32 (fun _ _ _ _ _ _ us hl => match us, hl with | [_, _], _ => rfl)
  obtain ⟨f33, d33, D33⟩ := def_of (mg := mg) (ps := ["web", "plan"]) X G t33 (fun _ _ _ _ _ _ us hl => match us, hl with | [_, _], _ => rfl)
  obtain ⟨f34, d34, D34⟩ := def_of (mg := mg) (ps := ["web", "plan"]) X G t34 (fun _ _ _ _ _ _ us hl => match us, hl with | [_, _], _ => rfl)
  obtain ⟨f35, d35, D35⟩ := def_of (mg := mg) (ps := ["web", "marks", "pairs"]) X G t35 (fun _ _ _ _ _ _ us hl => match us, hl with | [_, _, _], _ => rfl)
  obtain ⟨f36, d36, D36⟩ := def_of (mg := mg) (ps := ["web", "marks"]) X G t36 (fun _ _ _ _ _ _ us hl => match us, hl with | [_, _], _ => rfl)
  obtain ⟨f37, d37, D37⟩ := def_of (mg := mg) (ps := ["web", "marks", "plan"]) X G t37 (fun _ _ _ _ _ _ us hl => match us, hl with | [_, _, _], _ => rfl)
  obtain ⟨f38, d38, D38, k38⟩ := kw_of38 (mg := mg) X G t38 (fun _ _ _ _ _ _ us hl => match us, hl with | [_, _], _ => rfl) (fun _ _ _ _ _ _ _ _ => rfl)
  obtain ⟨f40, d40, D40⟩ := def_of (mg := mg) (ps := ["_law_script"]) X G t40 (fun _ _ _ _ _ _ us hl => match us, hl with | [_], _ => rfl)
  obtain ⟨f41, d41, D41⟩ := def_of (mg := mg) (ps := ["_law_feed_here", "_law_wide"]) X G t41 (fun _ _ _ _ _ _ us hl => match us, hl with | [_, _], _ => rfl)
  obtain ⟨f42, d42, D42⟩ := def_of (mg := mg) (ps := ["_law_feed_here", "_law_some"]) X G t42 (fun _ _ _ _ _ _ us hl => match us, hl with | [_, _], _ => rfl)
  obtain ⟨f43, d43, D43⟩ := def_of (mg := mg) (ps := ["_law_book", "_law_name"]) X G t43 (fun _ _ _ _ _ _ us hl => match us, hl with | [_, _], _ => rfl)
  obtain ⟨f44, d44, D44⟩ := def_of (mg := mg) (ps := ["_law_book", "_law_duo"]) X G t44 (fun _ _ _ _ _ _ us hl => match us, hl with | [_, _], _ => rfl)
  obtain ⟨f45, d45, D45⟩ := def_of (mg := mg) (ps := ["_law_book", "_law_duo"]) X G t45 (fun _ _ _ _ _ _ us hl => match us, hl with | [_, _], _ => rfl)
  obtain ⟨f46, d46, D46⟩ := def_of (mg := mg) (ps := ["_law_book", "_law_power"]) X G t46 (fun _ _ _ _ _ _ us hl => match us, hl with | [_, _], _ => rfl)
  obtain ⟨f47, d47, D47⟩ := def_of (mg := mg) (ps := []) X G t47 (fun _ _ _ _ _ _ us hl => match us, hl with | [], _ => rfl)
  obtain ⟨f48, d48, D48⟩ := def_of (mg := mg) (ps := ["_law_words", "_law_names"]) X G t48 (fun _ _ _ _ _ _ us hl => match us, hl with | [_, _], _ => rfl)
  obtain ⟨f49, d49, D49⟩ := def_of (mg := mg) (ps := ["_law_feed_here"]) X G t49 (fun _ _ _ _ _ _ us hl => match us, hl with | [_], _ => rfl)
  obtain ⟨f50, d50, D50⟩ := def_of (mg := mg) (ps := ["_law_feed_here", "_law_most"]) X G t50 (fun _ _ _ _ _ _ us hl => match us, hl with | [_, _], _ => rfl)
  obtain ⟨f51, d51, D51⟩ := def_of (mg := mg) (ps := ["_law_book", "_law_some", "_law_duo"]) X G t51 (fun _ _ _ _ _ _ us hl => match us, hl with | [_, _, _], _ => rfl)
  obtain ⟨f52, d52, D52⟩ := def_of (mg := mg) (ps := ["_law_book", "_law_power", "_law_some"]) X G t52 (fun _ _ _ _ _ _ us hl => match us, hl with | [_, _, _], _ => rfl)
  obtain ⟨f53, d53, D53⟩ := def_of (mg := mg) (ps := ["_law_items"]) X G t53 (fun _ _ _ _ _ _ us hl => match us, hl with | [_], _ => rfl)
  obtain ⟨f54, d54, D54⟩ := def_of (mg := mg) (ps := ["_law_book", "_law_power"]) X G t54 (fun _ _ _ _ _ _ us hl => match us, hl with | [_, _], _ => rfl)
  obtain ⟨f55, d55, D55⟩ := def_of (mg := mg) (ps := ["_law_book", "_law_some"]) X G t55 (fun _ _ _ _ _ _ us hl => match us, hl with | [_, _], _ => rfl)
  obtain ⟨f56, d56, D56⟩ := def_of (mg := mg) (ps := ["_law_book", "_law_some"]) X G t56 (fun _ _ _ _ _ _ us hl => match us, hl with | [_, _], _ => rfl)
  obtain ⟨f57, d57, D57⟩ := def_of (mg := mg) (ps := ["_law_some"]) X G t57 (fun _ _ _ _ _ _ us hl => match us, hl with | [_], _ => rfl)
  obtain ⟨f58, d58, D58⟩ := def_of (mg := mg) (ps := ["_law_book", "_law_some"]) X G t58 (fun _ _ _ _ _ _ us hl => match us, hl with | [_, _], _ => rfl)
  obtain ⟨f59, d59, D59⟩ := def_of (mg := mg) (ps := []) X G t59 (fun _ _ _ _ _ _ us hl => match us, hl with | [], _ => rfl)
  have ml := PySem.W.mg_none_of X G z1
  have mi := PySem.W.mg_none_of X G z2
  have mr := PySem.W.mg_none_of X G z3
  have mo := PySem.W.mg_none_of X G z4
  have mt := PySem.W.mg_none_of X G z5
  have ms := PySem.W.mg_none_of X G z6
  have mp := PySem.W.mg_none_of X G z7
  have mz := PySem.W.mg_none_of X G z8
  have me := PySem.W.mg_none_of X G z9
  have mli := PySem.W.mg_none_of X G z10
  have mb := PySem.W.mg_none_of X G z11
  have mdi := PySem.W.mg_none_of X G z12
  have mse := PySem.W.mg_none_of X G z13
  have my := PySem.W.mg_none_of X G z14
  obtain ⟨fL, oc, od, an, sl, kV, dc, pm, cd, ct, aL, lL, cL, kL⟩ := t60
  cases hfa.symm.trans (PySem.W.mg_of X G aL)
  have FL := fun_mk (st := topS 60) lL cL kL
  refine ⟨PySem.W.fnOf "law" "law" (defArgs (topS 60)) (defBody (topS 60)) (defScope (topS 60)) .none kV dc pm an cd ct, fun s v => .of_eq rfl, fun base _ _ => ?_⟩
  have O10 : FnOk l.prog w K mg base CX0 1 f10 d10 ["thing"] (spB K intB) := ok_integer D10.F ms mi mb
  have O7 : FnOk l.prog w K mg base CX0 1 f7 d7 ["thing"] (spG K pairB) := ok_pair D7.F ms mt ml
  have O12 : FnOk l.prog w K mg base CX0 1 f12 d12 ["thing"] (spG K nameB) := ok_name D12.F ml ms mz
  have O11 : FnOk l.prog w K mg base CX0 2 f11 d11 ["thing"] (spB K natB) := ok_number D11.F D10 O10
  have O13 : FnOk l.prog w K mg base CX0 3 f13 d13 ["thing"] (spG K storeB) := ok_store D13.F D7 O7 D12 O12 D11 O11
  have O15 : FnOk l.prog w K mg base CX0 1 f15 d15 ["web"] (spNo K) := ok_no D15.F mt
  have O16 : FnOk l.prog w K mg base CX0 1 f16 d16 ["web", "kind"] (spFo K) := ok_fo D16.F
  have O17 : FnOk l.prog w K mg base CX0 2 f17 d17 ["web", "kind"] (spFe K) := ok_fe D17.F D16 O16
  have O18 : FnOk l.prog w K mg base CX0 2 f18 d18 ["web", "kind"] (spTa K) := ok_ta D18.F D16 O16
  have O19 : FnOk l.prog w K mg base CX0 2 f19 d19 ["web", "kind", "mark"] (spCs K) := ok_cs D19.F D16 O16
  have O21 : FnOk l.prog w K mg base CX0 3 f21 d21 ["marks"] spCm := ok_cm D21.F D11 O11
  have O23 : FnOk l.prog w K mg base CX0 4 f23 d23 ["web", "marks", "thing"] (spPo K) := ok_po D23.F D13 O13 D15 O15 D19 O19
  have O24 : FnOk l.prog w K mg base CX0 3 f24 d24 ["web", "pairs"] (spLv K) := ok_lv D24.F D17 O17 D18 O18
  have O28 : FnOk l.prog w K mg base (L2.CX l.prog w) 5 f28 d28 ["web", "marks", "thing"] (spCp K D) := ok_cp D28.F EM D23 O23 D24 O24 D19 O19 ms mt me
  have O29 : FnOk l.prog w K mg base CX0 6 f29 d29 ["web", "marks", "thing"] (spIp K) := ok_ip D29.F EM D28 O28
  have O8 : FnOk l.prog w K mg base CX0 1 f8 d8 ["things"] (spAs K) := ok_as D8.F mt mo mse
  have O30 : FnOk l.prog w K mg base (L2.CX l.prog w) 7 f30 d30 ["web", "marks", "plan"] (spMp K DU) := ok_mp D30.F EU D21 O21 D29 O29
  have O31 : FnOk l.prog w K mg base CX0 2 f31 d31 ["plan"] (spKi K) := ok_ki D31.F D8 O8
  have O32 : FnOk l.prog w K mg base CX0 4 f32 d32 ["web", "plan"] (spIn K outN) := ok_ni D32.F D8 O8 D24 O24
  have O33 : FnOk l.prog w K mg base CX0 4 f33 d33 ["web", "plan"] (spIn K outQ) := ok_qi D33.F D8 O8 D24 O24 D19 O19
  have O21R : FnOk l.prog w K mg base (L2.CX l.prog w) 3 f21 d21 ["marks"] (spCmR K DU) := ok_cmR D21.F EU D11 O11
  have O8P : FnOk l.prog w K mg base CX0 1 f8 d8 ["things"] (spAsP K) := ok_asP D8.F mt mo mse
  have O8D : FnOk l.prog w K mg base CX0 1 f8 d8 ["things"] (spAsD K) := ok_asD D8.F mt mo mse
  have O8G : FnOk l.prog w K mg base CX0 1 f8 d8 ["things"] (spAsG K dRv) := ok_asG form_rv (fun h => tup_ref h) D8.F mt mo mse
  have O8T : FnOk l.prog w K mg base CX0 1 f8 d8 ["things"] (spAsT K) := ok_asT D8.F mt mo mse
  have O8L : FnOk l.prog w K mg base CX0 1 f8 d8 ["things"] (spAsL K) := ok_asL D8.F mt mo mse
  have O24L : FnOk l.prog w K mg base CX0 3 f24 d24 ["web", "pairs"] (spLvL K) := ok_lvL D24.F D17 O17 D18 O18
  have O25 : FnOk l.prog w K mg base CX0 3 f25 d25 ["web", "marks"] (spLe K) := ok_le D25.F D19 O19
  have O26 : FnOk l.prog w K mg base CX0 4 f26 d26 ["web", "plan"] (spFl K) := ok_fl D26.F D8 O8P D24 O24L D19 O19 mt
  have O27 : FnOk l.prog w K mg base CX0 5 f27 d27 ["web", "marks", "without"] (spWi K) := ok_wi D27.F D8 O8D D25 O25 D26 O26 ml mli
  have O36 : FnOk l.prog w K mg base (L2.CX l.prog w) 6 f36 d36 ["web", "marks"] (spPs K DU) := ok_ps D36.F D21 O21R D27 O27
  have O34 : FnOk l.prog w K mg base CX0 5 f34 d34 ["web", "plan"] (spOp K) := ok_op D34.F D32 O32 D33 O33 D31 O31 D15 O15 me
  have O37 : FnOk l.prog w K mg base (L2.CX l.prog w) 8 f37 d37 ["web", "marks", "plan"] (spIc K DU) := ok_ic D37.F D30 O30 D34 O34
  have O35 : FnOk l.prog w K mg base CX0 6 f35 d35 ["web", "marks", "pairs"] (spCw K) := ok_cw D35.F D25 O25 D8 O8G O8T D24 O24L D34 O34 my
  have O38 : FnOk l.prog w K mg base (L2.CX l.prog w) 7 f38 d38 ["web", "marks"] (spCq K DU) := ok_cq D38.F D21 O21R D27 O27 D35 O35 D8 O8L
  have O40 : FnOk l.prog w K mg base CX0 1 f40 d40 ["_law_script"] (spStart K) := ok_start D40.F mli
  have O41 : FnOk l.prog w K mg base CX0 1 f41 d41 ["_law_feed_here", "_law_wide"] spDraw := ok_draw D41.F mi ml
  have O42 : FnOk l.prog w K mg base CX0 2 f42 d42 ["_law_feed_here", "_law_some"] (spAny K) := ok_any D42.F D41.F D41.b D41.m mi ml
  have O43 : FnOk l.prog w K mg base CX0 1 f43 d43 ["_law_book", "_law_name"] (spLk K) := ok_lk D43.F
  have O44 : FnOk l.prog w K mg base CX0 2 f44 d44 ["_law_book", "_law_duo"] (spLl K) := ok_ll D44.F D43 O43
  have O45 : FnOk l.prog w K mg base CX0 2 f45 d45 ["_law_book", "_law_duo"] (spLc K) := ok_lc D45.F D43 O43
  have O46 : FnOk l.prog w K mg base CX0 3 f46 d46 ["_law_book", "_law_power"] (spLp K) := ok_lp D46.F D44 O44 D45 O45 ml mt mo
  have O47 : FnOk l.prog w K mg base CX0 1 f47 d47 [] spSc := ok_sc D47.F
  have O48 : FnOk l.prog w K mg base CX0 1 f48 d48 ["_law_words", "_law_names"] (spNm K) := ok_nm D48.F mdi mr mi mt mo
  have O49 : FnOk l.prog w K mg base CX0 2 f49 d49 ["_law_feed_here"] spDn := ok_dn D49.F D41 O41 mz mr
  have O50 : FnOk l.prog w K mg base CX0 4 f50 d50 ["_law_feed_here", "_law_most"] (spCa K) := ok_ca D50.F D41 O41 D42 O42 D47 O47 D49 O49 D48 O48 D46 O46 ml mi mr
  have O55 : FnOk l.prog w K mg base CX0 3 f55 d55 ["_law_book", "_law_some"] (spIn K outN) := ok_wn D55.F D44 O44 mt mo mse
  have O56 : FnOk l.prog w K mg base CX0 4 f56 d56 ["_law_book", "_law_some"] (spIn K outQ) := ok_wq D56.F D44 O44 D55 O55 D43 O43 mt
  have O57 : FnOk l.prog w K mg base CX0 1 f57 d57 ["_law_some"] (spKi K) := ok_wk D57.F mt mo mse
  have O51 : FnOk l.prog w K mg base CX0 3 f51 d51 ["_law_book", "_law_some", "_law_duo"] (spLd K) := ok_ld D51.F D44 O44
  have O52 : FnOk l.prog w K mg base CX0 4 f52 d52 ["_law_book", "_law_power", "_law_some"] (spLi K) := ok_li D52.F D45 O45 D51 O51
  have O53 : FnOk l.prog w K mg base CX0 1 f53 d53 ["_law_items"] (spSu K) := ok_su D53.F mo
  have O54 : FnOk l.prog w K mg base CX0 5 f54 d54 ["_law_book", "_law_power"] (spPn K) := ok_pn D54.F D53 O53 D46 O46 D52 O52
  have O58 : FnOk l.prog w K mg base CX0 5 f58 d58 ["_law_book", "_law_some"] (spLcl K) := ok_lcl D58.F D56 O56 D57 O57 D55 O55
  have O59 : FnOk l.prog w K mg base CX0 1 f59 d59 [] (spBh K) := ok_bh D59.F
  exact ok_law FL D40 O40 D59 O59 D48 O48 D50 O50 D46 O46 D54 O54 D58 O58 D42 O42 D38 O38 k38 D37 O37 D36 O36 mp mr mt mo ml mse
end
end Kn


namespace Kn
open PySem PySem.Spec PyProof.Rows L2 LamX
section
variable {K : PySem.W.Frag} {mg : Str → Option Value} {h : Heap}
theorem cls_mk {D N : Addr} {nm q : Str} {bs bm sub : List Value} {sn : List Str} {ab : Bool} {col : Option Bool} {dd : Option Addr} {k0 k1 k2 k3 k5 : Option Value} (l : K.lookup D = some (excClassObj nm q D N bs bm true sn sub ab col dd k0 k1 k2 k3 k5 "ValueError.__new__")) (r : PySem.HandSPX.refsVE bm = true) :
    ∃ nm q N bs bm sn sub ab col dd k0 k1 k2 k3 k5, K.lookup D = some (excClassObj nm q D N bs bm true sn sub ab col dd k0 k1 k2 k3 k5 "ValueError.__new__") ∧ PySem.HandSPX.refsVE bm = true := ⟨_, _, _, _, _, _, _, _, _, _, _, _, _, _, _, l, r⟩
theorem err_mk {D fI : Addr} {oc kV doc pm cdv ct : Value} {od an : Option Addr} {osl : Array (Option Value)} (X : K.In h) (G : h.Ns mainGlobals mg) (aD : PySem.W.nsIn K mainGlobals "InvalidPaper" = some (some (.ref D)))
    (cl : ∃ nm q N bs bm sn sub ab col dd k0 k1 k2 k3 k5, K.lookup D = some (excClassObj nm q D N bs bm true sn sub ab col dd k0 k1 k2 k3 k5 "ValueError.__new__") ∧ PySem.HandSPX.refsVE bm = true)
    (sa : PySem.W.findIn K (.ref D) "__setattr__" = some (some (.builtin "object.__setattr__"))) (ga : PySem.W.findIn K (.ref D) "__getattribute__" = some (some (.builtin "BaseException.__getattribute__"))) (gg : PySem.W.findIn K (.ref D) "__getattr__" = some none)
    (ha : PySem.W.findIn K (.ref D) "__class__" = some (some (.builtin "object.__class__"))) (hn : PySem.W.specialIn K (.builtin "object.__class__") "__get__" = some (some (.builtin "getset_descriptor.__get__"))) (ht : PySem.W.takesIn K (.builtin "object.__class__") = some true) (hm : PySem.W.mroIn K D (.type "object") = some true)
    (noW : PySem.W.findIn K (.ref D) "word" = some none) (noA : PySem.W.findIn K (.ref D) "at" = some none) (i : PySem.W.findIn K (.ref D) "__init__" = some (some (.ref fI))) (tI : PySem.W.typeIn K (.ref fI) = some (.type "function"))
    (lI : K.lookup fI = some ⟨oc, od, .func (PySem.W.fnOf "__init__" "InvalidPaper.__init__" (defArgs initS) (defBody initS) (defScope initS) .none kV doc pm an cdv ct), osl⟩) (cI : PySem.W.codeIn K cdv "InvalidPaper.__init__" = true) (kI : PySem.W.keepIn K (.ref fI) = true)
    (kC : PySem.W.keepIn K (.ref D) = true) (exC : PySem.W.subIn K (.ref D) (.type "BaseException") = some true) (tyC : PySem.W.typeIn K (.ref D) = some (.type "type")) (hdC : PySem.W.hasDictIn K D = true) (isC : PySem.W.isClsIn K D = true) (sV : PySem.W.subIn K (.ref D) (.type "ValueError") = some true) (sD : PySem.W.subIn K (.ref D) (.ref D) = some true) (exm : PySem.W.exmOne K (.ref D) (.ref D) = some true) :
    ErrM K mg D fI (PySem.W.fnOf "__init__" "InvalidPaper.__init__" (defArgs initS) (defBody initS) (defScope initS) .none kV doc pm an cdv ct) := by
  have FI : Fun K "__init__" "InvalidPaper.__init__" initS fI (PySem.W.fnOf "__init__" "InvalidPaper.__init__" (defArgs initS) (defBody initS) (defScope initS) .none kV doc pm an cdv ct) := fun_mk (st := initS) lI cI kI
  exact ⟨noW, noA, exm, ⟨cl, sa, exC, tyC, kC⟩, FI, FI.binds (fun _ _ _ _ _ _ us hl => match us, hl with | [_, _, _], _ => rfl), i, tI, PySem.W.mg_of X G aD⟩
theorem err_mkU {D fI : Addr} {oc kV doc pm cdv ct : Value} {od an : Option Addr} {osl : Array (Option Value)} (X : K.In h) (G : h.Ns mainGlobals mg) (aD : PySem.W.nsIn K mainGlobals "NotUsable" = some (some (.ref D)))
    (cl : ∃ nm q N bs bm sn sub ab col dd k0 k1 k2 k3 k5, K.lookup D = some (excClassObj nm q D N bs bm true sn sub ab col dd k0 k1 k2 k3 k5 "ValueError.__new__") ∧ PySem.HandSPX.refsVE bm = true)
    (sa : PySem.W.findIn K (.ref D) "__setattr__" = some (some (.builtin "object.__setattr__"))) (ga : PySem.W.findIn K (.ref D) "__getattribute__" = some (some (.builtin "BaseException.__getattribute__"))) (gg : PySem.W.findIn K (.ref D) "__getattr__" = some none)
    (ha : PySem.W.findIn K (.ref D) "__class__" = some (some (.builtin "object.__class__"))) (hn : PySem.W.specialIn K (.builtin "object.__class__") "__get__" = some (some (.builtin "getset_descriptor.__get__"))) (ht : PySem.W.takesIn K (.builtin "object.__class__") = some true) (hm : PySem.W.mroIn K D (.type "object") = some true)
    (noW : PySem.W.findIn K (.ref D) "word" = some none) (noA : PySem.W.findIn K (.ref D) "at" = some none) (i : PySem.W.findIn K (.ref D) "__init__" = some (some (.ref fI))) (tI : PySem.W.typeIn K (.ref fI) = some (.type "function"))
    (lI : K.lookup fI = some ⟨oc, od, .func (PySem.W.fnOf "__init__" "NotUsable.__init__" (defArgs initU) (defBody initU) (defScope initU) .none kV doc pm an cdv ct), osl⟩) (cI : PySem.W.codeIn K cdv "NotUsable.__init__" = true) (kI : PySem.W.keepIn K (.ref fI) = true)
    (kC : PySem.W.keepIn K (.ref D) = true) (exC : PySem.W.subIn K (.ref D) (.type "BaseException") = some true) (tyC : PySem.W.typeIn K (.ref D) = some (.type "type")) (hdC : PySem.W.hasDictIn K D = true) (isC : PySem.W.isClsIn K D = true) (sV : PySem.W.subIn K (.ref D) (.type "ValueError") = some true) (sD : PySem.W.subIn K (.ref D) (.ref D) = some true) :
    ErrU K mg D fI (PySem.W.fnOf "__init__" "NotUsable.__init__" (defArgs initU) (defBody initU) (defScope initU) .none kV doc pm an cdv ct) := by
  have FI : Fun K "__init__" "NotUsable.__init__" initU fI (PySem.W.fnOf "__init__" "NotUsable.__init__" (defArgs initU) (defBody initU) (defScope initU) .none kV doc pm an cdv ct) := fun_mk (st := initU) lI cI kI
  exact ⟨noW, noA, ⟨cl, sa, exC, tyC, kC⟩, FI, FI.binds (fun _ _ _ _ _ _ us hl => match us, hl with | [_, _, _], _ => rfl), i, tI, PySem.W.mg_of X G aD⟩
end
end Kn
open PySem PySem.W PyProof.Rows
set_option maxHeartbeats 0 in
theorem PySem.Challenge.cw_firstletter_k37_whole_closed_plans_holds : PySem.Challenge.rw_firstletter_k37_whole_closed_plans.Holds := by
  w_on; o_law; k_head; (case hw => w_witness2)
  k_fill
  refine Kn.walk_vow (l := PySem.Challenge.rw_firstletter_k37_whole_closed_plans) (k := 10) (x := "_law_script") (sp := Kn.spLaw) rfl rfl ⟨rfl, by decide, by decide⟩ (fun w h Y => PySem.W.kIn_of Y) ?F (fun _ _ a ns hl _ hS => ⟨a, ns, rfl, hS, hl, fun _ => rfl⟩)
  case F =>
    intro w mg fa h KX G hmg
    refine' Kn.all_mk KX G hmg ?EM ?EU ?t7 ?t8 ?t10 ?t11 ?t12 ?t13 ?t15 ?t16 ?t17 ?t18 ?t19 ?t21 ?t23 ?t24 ?t25 ?t26 ?t27 ?t28 ?t29 ?t30 ?t31 ?t32 ?t33 ?t34 ?t35 ?t36 ?t37 ?t38 ?t40 ?t41 ?t42 ?t43 ?t44 ?t45 ?t46 ?t47 ?t48 ?t49 ?t50 ?t51 ?t52 ?t53 ?t54 ?t55 ?t56 ?t57 ?t58 ?t59 ?t60 ?z1 ?z2 ?z3 ?z4 ?z5 ?z6 ?z7 ?z8 ?z9 ?z10 ?z11 ?z12 ?z13 ?z14
    (case z1 => k_is); (case z2 => k_is); (case z3 => k_is); (case z4 => k_is); (case z5 => k_is); (case z6 => k_is); (case z7 => k_is); (case z8 => k_is); (case z9 => k_is); (case z10 => k_is); (case z11 => k_is); (case z12 => k_is); (case z13 => k_is); (case z14 => k_is)
    case EM =>
      refine' Kn.err_mk KX G ?aD ?cl ?sa ?ga ?gg ?ha ?hn ?ht ?hm ?noW ?noA ?i ?tI ?lI ?cI ?kI ?kC ?exC ?tyC ?hdC ?isC ?sV ?sD ?exm
      (case aD => k_is)
      (case cl => (refine' Kn.cls_mk ?x ?y; (case x => k_is); (case y => decide +kernel)))
      (case sa => k_is); (case ga => k_is); (case gg => k_is); (case ha => k_is); (case hn => k_is); (case ht => k_is); (case hm => k_is); (case noW => k_is); (case noA => k_is); (case i => k_is); (case tI => k_is); (case lI => k_is); (case cI => k_is); (case kI => k_is)
      (case kC => k_is); (case exC => k_is); (case tyC => k_is); (case hdC => k_is); (case isC => k_is); (case sV => k_is); (case sD => k_is)
      (case exm => (refine' PySem.W.exm_ref ?a ?b ?c ?d; (case a => k_is); (case b => k_is); (case c => k_is); (case d => k_is)))
    case EU =>
      refine' Kn.err_mkU KX G ?xaD ?xcl ?xsa ?xga ?xgg ?xha ?xhn ?xht ?xhm ?xnoW ?xnoA ?xi ?xtI ?xlI ?xcI ?xkI ?xkC ?xexC ?xtyC ?xhdC ?xisC ?xsV ?xsD
      (case xaD => k_is)
      (case xcl => (refine' Kn.cls_mk ?xx ?xy; (case xx => k_is); (case xy => decide +kernel)))
      (case xsa => k_is); (case xga => k_is); (case xgg => k_is); (case xha => k_is); (case xhn => k_is); (case xht => k_is); (case xhm => k_is); (case xnoW => k_is); (case xnoA => k_is); (case xi => k_is); (case xtI => k_is); (case xlI => k_is); (case xcI => k_is); (case xkI => k_is)
      (case xkC => k_is); (case xexC => k_is); (case xtyC => k_is); (case xhdC => k_is); (case xisC => k_is); (case xsV => k_is); (case xsD => k_is)
    all_goals
      refine' Kn.at_mk ?a ?l ?c ?k
      (case a => k_is); (case l => k_is); (case c => k_is); (case k => k_is)
