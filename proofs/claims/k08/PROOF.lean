import PyProof.Rows.All
import Wide.All
import OpenK.AllK
import Wide.FinOn
import HandS.ForMost
import HandS.Star
import HandS.FStr
import HandS.RaiseMore
import PyProof.ReprRoads
import PyProof.StrLawsRepr
import HandS.TupAny
import HandS.TupSets
import KE.KeyNested
import KE.KDictKeyed
import HandS.Strs
import HandS.SetFor
import HandS.More
import HandS.IsInst
import KE.SortData
import HandS.HotCalls
import HandS.ExcIs
import HandS.ExcField
import HandS.ExcInit
import HandS.Lambda
import HandS.WordsExc
import KE.KExcIs
import PyProof.Rows.CountFlat
import PyProof.ReprLen
import HandS.Walk
import PyProof.Draws
import KE.GoesMore
import PyProof.EnumMake
import KE.KRevSl
import HandS.StrMore
import HandS.Deep
import HandS.TupMul
import HandS.List
import HandS.Comp
import HandS.EndTab
import KE.KNest
import PySem.Challenge.RW_firstletter_k08_whole_kinds_renamed
set_option Elab.async false
set_option linter.all false
set_option maxRecDepth 100000
set_option maxHeartbeats 8000000
/-! Kn: defs that show data by repr. A promise that holds where nothing is being shown yet (Vow), its body, its call, the law's end. -/
namespace Kn
open PySem PySem.Spec PyProof.Rows L2

section
variable (P : Program) (w : World) (K : PySem.W.Frag) (mg : Str → Option Value) (base : Heap)
structure Vow (k : Nat) (f : Addr) (fd : FuncData) (ps : List Str) (sp : Sp) : Prop where
  many : ∀ vs H Q E, sp vs H Q E → vs.length = ps.length
  goes : ∀ (A : Around) (fr : List Env) (s : Shared) (H : Hp) (g : Args) (us : List Value) (vs : List V) (Q : VK) (E : XK), A.guards = some [] → Room k A →
    Env0 P w K mg base A fr s H → BindsTo s fd g (ps.zip us) → Vals vs us → sp vs H Q E → codeAny (model P w) A (.call (.ref f) g) (CR CX0 fr P w H s Q E) s
end
section
variable {P : Program} {w : World} {K : PySem.W.Frag} {mg : Str → Option Value} {base : Heap} {k : Nat} {f : Addr} {fd : FuncData} {ps N : List Str} {sp : Sp} {x qual : Str} {st : Stmt}

theorem Vow.body (F : Fun K x qual st f fd) (S : FnScope N ps (defScope st)) (many : ∀ vs H Q E, sp vs H Q E → vs.length = ps.length)
    (hb : ∀ (cdv : Value) (A : Around) (fr : List Env) (s : Shared) (H : Hp) (vs : List V) (Q : VK) (E : XK), A.guards = some [] → Room k (A.deeper (envOfC qual (defScope st) s.heap.objs.size f cdv)) → sp vs H Q E →
      ∃ t, PSs (cxOf CX0 P w K mg base N qual (defScope st) f cdv A fr s H E).nox (defBody st) t ∧ t { nx := fun _ H' => Q .non H', rt := Q } (start N vs) H) :
    Vow P w K mg base (k + 1) f fd ps sp := by
  obtain ⟨oc, od, kV, doc, pm, an, cdv, ct, osl, rfl, look, cdOk⟩ := F.ex
  refine ⟨many, fun A fr s H g us vs Q E hg room z bound rv told => ?_⟩
  have held : ∀ b o, base.get? b = some o → s.heap.get? b = some o := fun b o y => (z.bs b o y).1
  have KS : K.In s.heap := z.mod.kin.keeps held
  have parL : ∀ y ∈ ps.zip us, (defScope st).names.lookup y.1 = some .local ∨ ((defScope st).names.lookup y.1 = some .cell ∧ ((cellsFrom (s.heap.objs.size + 1) (defScope st).names []).lookup y.1).isSome = true) := by
    rintro ⟨n, v⟩ hy
    cases S.par n (List.of_mem_zip hy).1 with
    | inl q => exact .inl q
    | inr q => exact .inr ⟨q, PySem.W.cellsFrom_some _ _ _ (.inl q)⟩
  refine codeAny_call_function room.depth (KS _ _ look) rfl S.co S.gen rfl (PySem.W.codeRec_of KS cdOk) (bound _ _ _ _ ?_)
  refine wpAny_newFunctionEnv_cells S.kind parL ?_
  rintro env rfl s1 y
  refine ⟨(z.mod.nolimit.keeps held).keeps y.toInCall.keep, codeAny_func ?_⟩
  obtain ⟨t, ht, ends⟩ := hb cdv A fr s H vs Q E hg (room.deeper _) told
  have I := inv_start (CX := CX0) (P := P) (mg := mg) (E := E) S room.hd z (many _ _ _ _ told) rv y
  refine wpAny_mono (ht.nox.run [] s1 (start N vs) H _ I ends) ?_ (fun _ _ q => q)
  intro fl s2 hs
  cases fl with
  | ret u => obtain ⟨v, σ2, H2, J, r2, q⟩ := hs; exact ⟨v, H2, J.os, J.bare, J.base, J.hok, r2, q⟩
  | next => obtain ⟨σ2, H2, J, q⟩ := hs; exact ⟨V.non, H2, J.os, J.bare, J.base, J.hok, rfl, q⟩
  | brk => obtain ⟨_, _, _, q⟩ := hs; exact q.elim
  | cont => obtain ⟨_, _, _, q⟩ := hs; exact q.elim

theorem Vow.of (F : FnOk P w K mg base CX0 k f fd ps sp) : Vow P w K mg base k f fd ps sp :=
  ⟨F.len, fun A fr s H g us vs Q E _ room z bound rv told => F.run A fr s H g us vs Q E room z bound rv told⟩
end

section
variable {X : Cx} {k : Nat} {f : Addr} {fd : FuncData} {ps : List Str} {sp : Sp} {x : Str} {p pos : Pos} {e : Expr} {es : List Expr} {t : TA}
/-- f(e, ..) of a def that vows -/
theorem pe_vow (F : Vow X.prog X.w X.K X.mg X.base k f fd ps sp) (hq : X.A.guards = some []) (hr : Room k X.A) (hg : Gl X x) (hm : X.mg x = some (.ref f)) (hk : PySem.W.keepIn X.K (.ref f) = true) (hb : Binds X.K fd ps [])
    (ha : PA X (e :: es) t) (hdb : (x == ("__debug__" : Str)) = false := by decide) (he : starEach (e :: es) X.env = (false, eval e X.env) :: starEach es X.env := by rfl) (hpl : (backTo pos (starEach es X.env)).any (·.1) = false := by rfl) :
    PE X (.Call (.Name x p) (e :: es) [] pos) (tCall sp [] E0 t) := by
  refine ⟨fun pins s σ H Q I told => wpAny_Call_Name_kw (ld_glob I hg hm ?_ hdb)⟩
  refine PySem.W.callWith_K (h₀ := X.base) I.ok.mod.kin hk (thn (ha.run pos pins s σ H _ I told) ?_) he hpl
  rintro us s1 ⟨vs, H1, I1, rv, q⟩
  refine ⟨I1.kIn, ?_⟩
  have q : sp (vs ++ []) H1 Q E0 := q
  rw [List.append_nil] at q
  have hl : (us ++ []).length = ps.length := by rw [List.append_nil, ← rv.length]; exact F.many _ _ _ _ q
  have hb1 := hb s1 us I1.kIn hl
  rw [List.append_nil] at hb1
  refine wpAny_call (codeAny_mono (F.goes X.A X.stack s1 H1 ⟨us, []⟩ us vs Q E0 hq hr I1.env0 hb1 rv q) ?_)
  intro r s2 out
  cases r with
  | error _ => exact False.elim out
  | ok fl =>
    cases fl with
    | ret u => exact I1.after out
    | next => exact False.elim out
    | brk => exact False.elim out
    | cont => exact False.elim out

/-- repr(x) of data -/
def rShow (K : PySem.W.Frag) : List V → Hp → VK → Prop := fun xs H Q => ∃ (a : Addr) (d : PyData), xs = [.ref a] ∧ Dp K H (.ref a) d ∧ d.showable = true ∧ d.hasDict = false ∧ d.depth ≤ 20 ∧ d.shown.length ≤ sizeLine ∧ Q (.str d.shown) H
theorem call_show (hq : X.A.guards = some []) (hu : X.A.units + 64 < cLine) : CallR X (.builtin "repr") (rShow X.K) := by
  rintro pins s σ H xs us Q I rv ⟨a, d, rfl, hd, h1, h2, h3, h4, q⟩
  obtain ⟨u, rfl, rfl⟩ := vals1 rv
  obtain ⟨as, rd⟩ := Dp.reads I d _ _ hd rfl
  exact repr_of_reads' rd h1 (PyData.noDict_hsm h2) hq (by omega) (fun _ _ y => y) (fun h' u tk kp => ⟨.str d.shown, H, I.kept kp, ⟨_, rfl⟩, q⟩) h4
end

/-! the law's end -/
section
variable {P : Program} {w : World} {K : PySem.W.Frag} {mg mb : Str → Option Value} {k : Nat} {fa a : Addr} {fd : FuncData} {x : Str} {sp : Sp} {s : Shared} {vs : List Value} {ns : List Int}
theorem end_vow (kin : K.In s.heap) (nsm : s.heap.Ns mainGlobals mg) (nsb : s.heap.Ns builtinsNs mb) (boot : ∀ y : Str, y ≠ "__name__" → mb y = bootBuiltins y) (lim : s.heap.NoLimit) (gens : s.gens = #[])
    (at_ : s.heap.get? a = some { cls := .type "list", data := .seq vs.toArray }) (iv : IntsAre vs ns) (short : ns.length ≤ sizeLine) (room : Room k callerA)
    (F : ∀ base : Heap, K.In base → base.Ns mainGlobals mg → Vow P w K mg base k fa fd [x] sp) (bound : ∀ (z : Shared) (u : Value), BindsTo z fd ⟨[u], []⟩ [(x, u)])
    (told : ∀ H : Hp, Only H → SqL K H a (ns.map V.int) → sp [.ref a] H (fun v _ => v = .bl true) E0) :
    codeAny (model P w) callerA (.call (.ref fa) ⟨[.ref a], []⟩) (fun r s' => r = .ok (.ret (.bool true)) ∧ OldK s.heap s'.heap ∧ s'.os = s.os ∧ AllBare s'.gens) s := by
  have many : ns.length = vs.length := by rw [iv.length]
  have main : ∀ H : Hp, Only H → SqL K H a (ns.map V.int) → HOk P w H s.heap → (∀ b u, H b = some u → b = a ∧ K.lookup a = none) →
      codeAny (model P w) callerA (.call (.ref fa) ⟨[.ref a], []⟩) (fun r s' => r = .ok (.ret (.bool true)) ∧ OldK s.heap s'.heap ∧ s'.os = s.os ∧ AllBare s'.gens) s := by
    intro H only lst ok alone
    have free : ∀ b o, s.heap.get? b = some o → o ≠ { cls := .type "list", data := .seq vs.toArray } → H b = none := by
      intro b o y ne
      cases q : H b with
      | none => rfl
      | some u =>
        obtain ⟨rfl, _⟩ := alone b u q
        rw [at_] at y
        exact absurd (Option.some.inj y).symm ne
    have nsk : ∀ {b : Addr} {m : Str → Option Value}, s.heap.Ns b m → (hidT s.heap H).Ns b m := by
      rintro b m ⟨o, es, ep, y, dd, r⟩
      refine ⟨o, es, ep, hidT_get y (free b o y ?_), dd, r⟩
      rintro rfl
      have dd2 : Data.seq vs.toArray _ = Data.dict es ep := dd
      cases dd2
    have kinB : K.In (hidT s.heap H) := by
      intro b o y
      refine hidT_get (kin b o y) ?_
      cases q : H b with
      | none => rfl
      | some u =>
        obtain ⟨rfl, no⟩ := alone b u q
        rw [no] at y
        cases y
    obtain ⟨mc, c1, c2⟩ := lim
    have md : Mod K mg (hidT s.heap H) := ⟨kinB, nsk nsm, ⟨mb, nsk nsb, boot⟩, mc, nsk c1, c2⟩
    have noL : ∀ {b : Addr}, b ∉ ([] : List Addr) := fun h => by cases h
    have z : Env0 P w K mg (hidT s.heap H) callerA [] s H := ⟨rfl, md, fun b o y => of_hidT y, Nat.le_of_eq (hidT_size _ _), trivial, fun b h => absurd h noL, ok, .of_eq gens⟩
    have run := (F _ kinB (nsk nsm)).goes callerA [] s H ⟨[.ref a], []⟩ [.ref a] [.ref a] _ _ rfl room z (bound s (.ref a)) (.cons rfl .nil) (told H only lst)
    refine codeAny_mono run ?_
    intro r s2 out
    cases r with
    | error _ => exact False.elim out
    | ok fl =>
      cases fl with
      | next => exact False.elim out
      | brk => exact False.elim out
      | cont => exact False.elim out
      | ret u =>
        obtain ⟨v, H2, os, bare, un, ok2, r2, rfl⟩ := out
        obtain rfl : u = Value.bool true := r2
        refine ⟨rfl, OldK.of_keep (fun b o y => ?_), os, bare⟩
        cases q : H b with
        | none => exact un.keep b o y q noL noL
        | some u =>
          rcases only b with n | ⟨ob, xs, n⟩
          · rw [q] at n
            cases n
          · obtain ⟨y1, _⟩ := ok b _ n
            obtain ⟨y2, _⟩ := ok2 b _ (un.frzs b ob _ n)
            rw [y] at y1
            cases y1
            exact y2
  have rv : Vals (ns.map V.int) vs := vals_ints iv
  cases hk : K.lookup a with
  | some o =>
    have y := kin a o hk
    rw [at_] at y
    cases y
    refine main (fun _ => none) (fun _ => .inl rfl) (.inr ⟨_, vs.toArray, _, hk, rfl, rfl, rfl, by rw [List.size_toArray, ← many]; exact short, by simpa using rv⟩) (fun b u q => ?_) (fun b u q => ?_)
    · have q : (none : Option HO) = some u := q
      cases q
    · have q : (none : Option HO) = some u := q
      cases q
  | none =>
    refine main (fun b => if b = a then some (.frz { cls := .type "list", data := .seq vs.toArray } (.lst (ns.map V.int))) else none) (fun b => ?_) (.inl (.inr ⟨{ cls := .type "list", data := .seq vs.toArray }, if_pos rfl⟩)) (fun b u q => ?_) (fun b u q => ?_)
    · by_cases hb : b = a
      · exact .inr ⟨_, _, if_pos hb⟩
      · exact .inl (if_neg hb)
    · by_cases hb : b = a
      · subst hb
        cases (if_pos rfl).symm.trans q
        exact ⟨at_, by rw [List.length_map]; exact short, vs, _, rv, at_⟩
      · cases (if_neg hb).symm.trans q
    · by_cases hb : b = a
      · exact ⟨hb, hk⟩
      · cases (if_neg hb).symm.trans q

theorem walk_vow {l : PySem.W.OpenLaw} {q : Program} {loose : List Str} {XP : (Str → Option Value) → Heap → Prop} {YP : World → Heap → Prop} {d : DefRec} {K : Params → PySem.W.Frag} {sp : PySem.W.Frag → Sp}
    (most : l.most = some 63) (dflt : d.params.defaults = []) (room : Room k callerA) (hY : ∀ (w : World) (h : Heap), YP w h → (K w.params).In h)
    (F : ∀ (w : World) (mg : Str → Option Value) (fa : Addr) (h : Heap), (K w.params).In h → h.Ns mainGlobals mg → mg d.name = some (.ref fa) →
      ∃ fd : FuncData, (∀ (z : Shared) (u : Value), BindsTo z fd ⟨[u], []⟩ [(x, u)]) ∧ ∀ base : Heap, (K w.params).In base → base.Ns mainGlobals mg → Vow l.prog w (K w.params) mg base k fa fd [x] (sp (K w.params)))
    (told : ∀ (K : PySem.W.Frag) (H : Hp) (a : Addr) (ns : List Int), ns.length ≤ 63 → Only H → SqL K H a (ns.map V.int) → sp K [.ref a] H (fun v _ => v = .bl true) E0) :
    PySem.W.WalkO q loose XP YP l.row.toRowW d [] (fun f vs => PySem.call f vs) := by
  refine Att.attach_call most dflt ?_
  intro w s0 s1 mg mb fa o pm cd doc a vs ns G Y ho hd hcd hmg hobj iv short gens
  have kin := hY w _ Y
  obtain ⟨fd, hb, hF⟩ := F w mg fa _ kin G.T.g hmg
  exact end_vow kin G.T.g G.T.b G.T.builtins G.T.nolimit gens hobj iv (Nat.le_trans short (by decide)) room hF hb (fun H only lst => told _ H a ns short only lst)
end
end Kn


/-! Kn: texts: lengths and signs; the pure defs of the program and of the law. -/
namespace Kn
open PySem PySem.Spec PyProof.Rows L2

/-! ### texts -/
def Fit (n : Nat) (x : Str) : Prop := x.length ≤ n ∧ ∀ c ∈ x.cps.toList, c < 16 ^ 8
theorem Fit.mono {n m : Nat} {x : Str} (h : Fit n x) (l : n ≤ m) : Fit m x := ⟨Nat.le_trans h.1 l, h.2⟩
theorem len_app (a b : Str) : (a ++ b).length = a.length + b.length := by
  show (a.cps ++ b.cps).size = _
  rw [Array.size_append]
  rfl
theorem Fit.app {n m : Nat} {a b : Str} (h : Fit n a) (k : Fit m b) : Fit (n + m) (a ++ b) := by
  refine ⟨by rw [len_app]; have := h.1; have := k.1; omega, fun c hc => ?_⟩
  have hc : c ∈ (a.cps ++ b.cps).toList := hc
  rw [Array.toList_append, List.mem_append] at hc
  exact hc.elim (h.2 c) (k.2 c)
theorem app_assoc (a b c : Str) : a ++ b ++ c = a ++ (b ++ c) := by
  show Str.mk (a.cps ++ b.cps ++ c.cps) = Str.mk (a.cps ++ (b.cps ++ c.cps))
  rw [Array.append_assoc]
theorem nil_app (a : Str) : Str.empty ++ a = a := by
  show Str.mk (#[] ++ a.cps) = a
  rw [Array.empty_append]
theorem Fit.join {n m : Nat} {y : Str} (hy : Fit m y) : ∀ (xs : List Str), (∀ x ∈ xs, Fit n x) → Fit (xs.length * (n + m)) (Str.join y xs)
  | [], _ => ⟨Nat.zero_le _, fun c hc => by cases hc⟩
  | [x], h => (h x (List.mem_cons_self ..)).mono (by rw [List.length_singleton]; omega)
  | x :: z :: r, h => by
    have ih := Fit.join hy (z :: r) fun v hv => h v (List.mem_cons_of_mem _ hv)
    have q := ((h x (List.mem_cons_self ..)).app hy).app ih
    refine q.mono ?_
    simp only [List.length_cons, Nat.add_mul, Nat.one_mul]
    omega
theorem fit_string (s : String) : ∀ c ∈ (Str.ofString s).cps.toList, c < 16 ^ 8 := by
  intro c hc
  rw [Str.ofString_eq_toList] at hc
  have hc : c ∈ s.toList.map Char.toNat := by simpa using hc
  obtain ⟨d, _, rfl⟩ := List.mem_map.mp hc
  have h : d.toNat < 1114112 := by
    have v := d.valid
    have e : d.toNat = d.val.toNat := rfl
    rcases v with v | ⟨_, v⟩
    · rw [e]; have v : d.val.toNat < 55296 := v; omega
    · rw [e]; exact v
  exact Nat.lt_trans h (by decide)
theorem len_string (s : String) : (Str.ofString s).length = s.toList.length := by
  rw [Str.ofString_eq_toList]
  show ((s.toList.map Char.toNat).toArray).size = _
  rw [List.size_toArray, List.length_map]

/-! ### comprehensions that change nothing -/
theorem tupS {K : PySem.W.Frag} {H H' : Hp} {a : Addr} {xs : List V} (e : Same H H') (h : SqT K H a xs) : SqT K H' a xs := by
  rcases h with (h | ⟨o, h⟩) | h
  · exact .inl (.inl (e _ _ h))
  · exact .inl (.inr ⟨o, e _ _ h⟩)
  · exact .inr h
theorem same_new {H : Hp} {p : Addr} {o : HO} (h : H p = none) : Same H (upd H p o) := fun b x e => by
  rw [upd_ne (ne_of_none e h)]
  exact e
theorem putS {H H' : Hp} {p : Addr} {o : HO} (e : Same H H') (h : H p = none) : Same H (upd H' p o) := fun b x q => by
  rw [upd_ne (ne_of_none q h)]
  exact e _ _ q
theorem small' {n : Nat} (h : n ≤ 1000) : n < sizeLine := Nat.lt_of_le_of_lt h (by decide)
theorem take_next {ys : List V} {i : Nat} {y : V} (h : ys[i]? = some y) : ys.take i ++ [y] = ys.take (i + 1) := by
  rw [List.take_add_one, h]
  rfl
theorem lc_mapT {K : PySem.W.Frag} {a : Addr} {xs : List V} {slot : Nat} {te tl : TE} {vs : List Nat} {σ : L2.St} {H : Hp} {Q : VK} (ys : List V) (hl : ys.length = xs.length) (hs : xs.length ≤ 1000) (hT : SqT K H a xs)
    (htl : ∀ R : VK, R (.ref a) H → tl σ H R) (w : ∀ v, wipe ((wipe σ vs).set slot (some v)) vs = wipe σ vs)
    (turn : ∀ (i : Nat) (x y : V) (G : Hp) (R : VK), xs[i]? = some x → ys[i]? = some y → Same H G → (∀ G', Same G G' → R y G') → te ((wipe σ vs).set slot (some x)) G R)
    (done : ∀ (D : Addr) (G : Hp), H D = none → Same H G → G D = some (.lst ys) → Q (.ref D) G) : tLc (iTup K tl) (gName slot) tYes te vs σ H Q := by
  refine htl _ ⟨a, rfl, ⟨xs, hT⟩, fun D nD => ?_⟩
  refine lc_tup (K := K) (a := a) (xs := xs) (fun i G => Same H G ∧ G D = some (.lst (ys.take i))) ⟨same_new nD, upd_same⟩ (fun i G _ h => tupS h.1 hT) ?_ ?_
  · rintro i x G hx ⟨sm, hD⟩
    have hi : i < xs.length := (List.getElem?_eq_some_iff.mp hx).1
    have hy : ys[i]? = some (ys[i]'(by omega)) := List.getElem?_eq_getElem (by omega)
    refine ⟨w x, ?_⟩
    simp only [tYes, ↓reduceIte]
    refine turn i x _ G _ hx hy sm fun G' s' => ⟨ys.take i, s' _ _ hD, ?_, ?_, ?_⟩
    · rw [List.length_take]
      exact small' (by omega)
    · exact putS (sm.trans s') nD
    · rw [upd_same, take_next hy]
  · rintro G ⟨sm, hD⟩
    refine done D G nD sm ?_
    rw [hD, List.take_of_length_le (by omega)]
theorem lc_mapL {K : PySem.W.Frag} {a : Addr} {xs : List V} {slot : Nat} {te tl : TE} {vs : List Nat} {σ : L2.St} {H : Hp} {Q : VK} (ys : List V) (hl : ys.length = xs.length) (hs : xs.length ≤ 1000) (hT : SqL K H a xs)
    (htl : ∀ R : VK, R (.ref a) H → tl σ H R) (w : ∀ v, wipe ((wipe σ vs).set slot (some v)) vs = wipe σ vs)
    (turn : ∀ (i : Nat) (x y : V) (G : Hp) (R : VK), xs[i]? = some x → ys[i]? = some y → Same H G → (∀ G', Same G G' → R y G') → te ((wipe σ vs).set slot (some x)) G R)
    (done : ∀ (D : Addr) (G : Hp), H D = none → Same H G → G D = some (.lst ys) → Q (.ref D) G) : tLc (iList K tl) (gName slot) tYes te vs σ H Q := by
  refine htl _ ⟨a, rfl, ⟨xs, hT⟩, fun D nD => ?_⟩
  refine lc_list (K := K) (a := a) (xs := xs) (fun i G => Same H G ∧ G D = some (.lst (ys.take i))) ⟨same_new nD, upd_same⟩ (fun i G _ h => h.1.seq hT) ?_ ?_
  · rintro i x G hx ⟨sm, hD⟩
    have hi : i < xs.length := (List.getElem?_eq_some_iff.mp hx).1
    have hy : ys[i]? = some (ys[i]'(by omega)) := List.getElem?_eq_getElem (by omega)
    refine ⟨w x, ?_⟩
    simp only [tYes, ↓reduceIte]
    refine turn i x _ G _ hx hy sm fun G' s' => ⟨ys.take i, s' _ _ hD, ?_, ?_, ?_⟩
    · rw [List.length_take]
      exact small' (by omega)
    · exact putS (sm.trans s') nD
    · rw [upd_same, take_next hy]
  · rintro G ⟨sm, hD⟩
    refine done D G nD sm ?_
    rw [hD, List.take_of_length_le (by omega)]

/-! ### str of an int or a text -/
def shV : V → Str
  | .int i => Str.ofString (toString i)
  | .str z => z
  | _ => Str.empty
def FlatV : V → Prop
  | .int i => i.natAbs.log2 < 1920
  | .str _ => True
  | _ => False
theorem call_str_flat {X : Cx} : CallR X (.type "str") (fun xs H Q => ∃ v, xs = [v] ∧ FlatV v ∧ Q (.str (shV v)) H) := by
  rintro pins s σ H xs us Q I rv ⟨v, rfl, hv, q⟩
  cases v with
  | int i => exact call_str_int pins s σ H _ us Q I rv ⟨i, rfl, hv, q⟩
  | str z => exact SkE.call_str_str pins s σ H _ us Q I rv ⟨z, rfl, q⟩
  | _ => exact hv.elim

/-! ### the data -/
structure Ent where
  name : Str
  fee : Int
  has : Bool
  row : List Str
def Ent.ok (e : Ent) : Prop := Fit 8 e.name ∧ e.fee.natAbs < 10 ^ 60 ∧ e.row.length ≤ 8 ∧ ∀ s ∈ e.row, Fit 8 s
def EntAt (K : PySem.W.Frag) (H : Hp) (v : V) (e : Ent) : Prop := ∃ p q, v = .ref p ∧ SqT K H p [.str e.name, .int e.fee, .bl e.has, .ref q] ∧ SqT K H q (e.row.map V.str)
inductive EntsAt (K : PySem.W.Frag) (H : Hp) : List V → List Ent → Prop
  | nil : EntsAt K H [] []
  | cons {v : V} {vs : List V} {e : Ent} {es : List Ent} : EntAt K H v e → EntsAt K H vs es → EntsAt K H (v :: vs) (e :: es)
theorem EntAt.same {K : PySem.W.Frag} {H H' : Hp} {v : V} {e : Ent} (s : Same H H') : EntAt K H v e → EntAt K H' v e := fun ⟨p, q, a, b, c⟩ => ⟨p, q, a, tupS s b, tupS s c⟩
theorem EntsAt.same {K : PySem.W.Frag} {H H' : Hp} (s : Same H H') : ∀ {vs : List V} {es : List Ent}, EntsAt K H vs es → EntsAt K H' vs es
  | _, _, .nil => .nil
  | _, _, .cons a b => .cons (a.same s) (EntsAt.same s b)
theorem EntsAt.len {K : PySem.W.Frag} {H : Hp} : ∀ {vs : List V} {es : List Ent}, EntsAt K H vs es → vs.length = es.length
  | _, _, .nil => rfl
  | _, _, .cons _ b => congrArg Nat.succ (EntsAt.len b)
theorem EntsAt.get {K : PySem.W.Frag} {H : Hp} : ∀ {vs : List V} {es : List Ent} {i : Nat} {v : V}, EntsAt K H vs es → vs[i]? = some v → ∃ e, es[i]? = some e ∧ EntAt K H v e
  | _, _, i, v, .nil, h => by cases h
  | _, _, 0, v, .cons a b, h => by
    have h : some _ = some v := h
    cases h
    exact ⟨_, rfl, a⟩
  | _, _, i + 1, v, .cons a b, h => EntsAt.get (i := i) b h
theorem EntsAt.append {K : PySem.W.Frag} {H : Hp} : ∀ {vs ws : List V} {es ds : List Ent}, EntsAt K H vs es → EntsAt K H ws ds → EntsAt K H (vs ++ ws) (es ++ ds)
  | _, _, _, _, .nil, h => h
  | _, _, _, _, .cons a b, h => .cons a (EntsAt.append b h)
theorem EntsAt.rev {K : PySem.W.Frag} {H : Hp} : ∀ {vs : List V} {es : List Ent}, EntsAt K H vs es → EntsAt K H vs.reverse es.reverse
  | _, _, .nil => .nil
  | _, _, .cons a b => by
    rw [List.reverse_cons, List.reverse_cons]
    exact (EntsAt.rev b).append (.cons a .nil)
structure Pg where
  es : List Ent
  asks : Str
def Pg.ok (g : Pg) : Prop := g.es.length ≤ 12 ∧ (∀ e ∈ g.es, e.ok) ∧ Fit 8 g.asks
def PgAt (K : PySem.W.Frag) (H : Hp) (v : V) (g : Pg) : Prop := ∃ p q vs, v = .ref p ∧ SqT K H p [.ref q, .str g.asks] ∧ SqT K H q vs ∧ EntsAt K H vs g.es
theorem PgAt.same {K : PySem.W.Frag} {H H' : Hp} {v : V} {g : Pg} (s : Same H H') : PgAt K H v g → PgAt K H' v g := fun ⟨p, q, vs, a, b, c, d⟩ => ⟨p, q, vs, a, tupS s b, tupS s c, d.same s⟩

/-! ### the texts -/
def tabT (t : List Str) : Str := if t = [] then ("-" : Str) else Str.join "," t
def wordT (b : Bool) : Str := if b = true then ("has" : Str) else ("not" : Str)
def feeT (i : Int) : Str := Str.ofString (toString i)
def lineT (e : Ent) : Str := Str.join " " ["kind", e.name, feeT e.fee, wordT e.has, tabT e.row]
def pageT (g : Pg) : Str := Str.join "\n" (g.es.map lineT ++ [("asker " : Str) ++ g.asks])
theorem fit_of (s : String) {n : Nat} (h : s.toList.length ≤ n) : Fit n (Str.ofString s) := ⟨by rw [len_string]; exact h, fit_string s⟩
theorem fee_log {i : Int} (h : i.natAbs < 10 ^ 60) : i.natAbs.log2 < 1920 := by
  by_cases z : i.natAbs = 0
  · rw [z]; decide
  · exact (Nat.log2_lt z).mpr (Nat.lt_trans h (by decide))
theorem feeT_fit {i : Int} (h : i.natAbs < 10 ^ 60) : Fit 61 (feeT i) := by
  refine fit_of _ ?_
  have := int_text_length_le10 (k := 60) (by decide) h
  rw [String.length_toList]
  exact this
theorem tabT_fit {t : List Str} (h : t.length ≤ 8) (k : ∀ s ∈ t, Fit 8 s) : Fit 100 (tabT t) := by
  unfold tabT
  split
  · exact fit_of "-" (by decide)
  · refine (Fit.join (m := 1) (fit_of "," (by decide)) t k).mono ?_
    have := Nat.mul_le_mul_right (8 + 1) h
    omega
theorem wordT_fit (b : Bool) : Fit 3 (wordT b) := by
  unfold wordT
  split
  · exact fit_of "has" (by decide)
  · exact fit_of "not" (by decide)
theorem lineT_fit {e : Ent} (h : e.ok) : Fit 600 (lineT e) := by
  obtain ⟨h1, h2, h3, h4⟩ := h
  refine (Fit.join (n := 100) (m := 1) (fit_of " " (by decide)) _ ?_).mono (by simp)
  intro x hx
  simp only [List.mem_cons, List.not_mem_nil, or_false] at hx
  rcases hx with rfl | rfl | rfl | rfl | rfl
  · exact (fit_of "kind" (n := 100) (by decide))
  · exact h1.mono (by omega)
  · exact (feeT_fit h2).mono (by omega)
  · exact (wordT_fit _).mono (by omega)
  · exact (tabT_fit h3 h4)
theorem askT_fit {g : Pg} (h : g.ok) : Fit 600 (("asker " : Str) ++ g.asks) := ((fit_of "asker " (n := 6) (by decide)).app h.2.2).mono (by omega)
theorem pageT_fit {g : Pg} (h : g.ok) : Fit 10000 (pageT g) := by
  refine (Fit.join (n := 600) (m := 1) (fit_of "\n" (by decide)) _ ?_).mono ?_
  · intro x hx
    rcases List.mem_append.mp hx with hx | hx
    · obtain ⟨e, he, rfl⟩ := List.mem_map.mp hx
      exact lineT_fit (h.2.1 e he)
    · obtain rfl := List.mem_singleton.mp hx
      exact askT_fit h
  · have := Nat.mul_le_mul_right (600 + 1) h.1
    rw [List.length_append, List.length_map, List.length_singleton, Nat.add_mul]
    omega
theorem kind_sp : ("kind " : Str) = ("kind" : Str) ++ (" " : Str) := by decide +kernel
theorem line_chain (e : Ent) : Str.empty ++ ("kind " : Str) ++ e.name ++ (" " : Str) ++ feeT e.fee ++ (" " : Str) ++ wordT e.has ++ (" " : Str) ++ tabT e.row = lineT e := by
  unfold lineT
  simp only [Str.join, app_assoc, nil_app, kind_sp]
end Kn


/-! Kn: keys of any depth in sets: what is asked of a key aside of == and hash. -/
namespace Kn
open PySem PySem.Spec PyProof.Rows L2
section
variable {P : Program} {w : World}
/-- a question asked of a value: it ends with this answer, and nothing is changed -/
def Told (P : Program) (w : World) (s : Shared) (m : Sem Bool) (b : Bool) : Prop := ∀ (A : Around) (E : Value → Shared → Prop) (Q : Bool → Shared → Prop), Q b s → wpAny (model P w) A m Q E s
theorem told_pure {s : Shared} {b : Bool} : Told P w s (pure b) b := fun _ _ _ q => wpAny_pure q
/-- none of the items is of a class statement -/
theorem none_of {n : Nat} {s : Shared} : ∀ (vs : List Value), (∀ v ∈ vs, Told P w s (ofAClassStatement n v) false) → ∀ {A : Around} {E : Value → Shared → Prop} {Q : Option Bool × Unit → Shared → Prop}, Q (none, ()) s →
    wpAny (model P w) A (forIn vs ((none, ()) : Option Bool × Unit) fun y r => do
      if ← ofAClassStatement n y then return ForInStep.done (some true, ())
      return ForInStep.yield (none, ())) Q E s
  | [], _, A, E, Q, q => wpAny_pure q
  | v :: r, h, A, E, Q, q => by
    rw [List.forIn_cons]
    refine wpAny_bind (wpAny_bind (h v (List.mem_cons_self ..) A E _ ?_))
    simp only [Bool.false_eq_true, if_false]
    exact wpAny_pure (none_of r (fun x hx => h x (List.mem_cons_of_mem _ hx)) q)
theorem all_by {n : Nat} {s : Shared} : ∀ (vs : List Value), (∀ v ∈ vs, ∃ b, Told P w s (hashByValue n v) b) → ∃ x : Option Bool, ∀ {A : Around} {E : Value → Shared → Prop} {Q : Option Bool × Unit → Shared → Prop}, Q (x, ()) s →
    wpAny (model P w) A (forIn vs ((none, ()) : Option Bool × Unit) fun y r => do
      if !(← hashByValue n y) then return ForInStep.done (some false, ())
      return ForInStep.yield (none, ())) Q E s
  | [], _ => ⟨none, fun q => wpAny_pure q⟩
  | v :: r, h => by
    obtain ⟨b, hb⟩ := h v (List.mem_cons_self ..)
    obtain ⟨x, hx⟩ := all_by r fun u hu => h u (List.mem_cons_of_mem _ hu)
    cases b
    · refine ⟨some false, fun {A E Q} q => ?_⟩
      rw [List.forIn_cons]
      refine wpAny_bind (wpAny_bind (hb A E _ ?_))
      simp only [Bool.not_false, if_true]
      exact wpAny_pure (wpAny_pure q)
    · refine ⟨x, fun {A E Q} q => ?_⟩
      rw [List.forIn_cons]
      refine wpAny_bind (wpAny_bind (hb A E _ ?_))
      simp only [Bool.not_true, Bool.false_eq_true, if_false]
      exact wpAny_pure (hx q)
theorem class_tup {n : Nat} {s : Shared} {a : Addr} {o : Obj} {vs : Array Value} {m : Nat} (ho : s.heap.get? a = some o) (hc : o.cls = .type "tuple") (hd : o.data = .seq vs m) (h : ∀ v ∈ vs.toList, Told P w s (ofAClassStatement n v) false) :
    Told P w s (ofAClassStatement (n + 1) (.ref a)) false := fun A E Q q => by
  have ty : s.TypeIs (.ref a) "tuple" := ⟨o, ho, hc⟩
  unfold ofAClassStatement
  refine wpAny_bind (wpAny_typeOf ty ?_)
  dsimp only
  simp only [show (("tuple" : String) == "tuple") = true by decide, if_true, Bool.not_true, Bool.false_eq_true, if_false]
  try refine wpAny_bind (wpAny_pure ?_)
  try simp only [Bool.not_true, Bool.false_eq_true, if_false]
  refine wpAny_bind (wpAny_seqItems ho hd ?_)
  dsimp only
  refine wpAny_bind ?_
  rw [← Array.forIn_toList]
  refine none_of vs.toList h ?_
  exact wpAny_pure q
theorem hash_tup {n : Nat} {s : Shared} {a : Addr} {o : Obj} {vs : Array Value} {m : Nat} (ho : s.heap.get? a = some o) (hc : o.cls = .type "tuple") (hd : o.data = .seq vs m) (h : ∀ v ∈ vs.toList, ∃ b, Told P w s (hashByValue n v) b) :
    ∃ b, Told P w s (hashByValue (n + 1) (.ref a)) b := by
  have ty : s.TypeIs (.ref a) "tuple" := ⟨o, ho, hc⟩
  obtain ⟨x, hx⟩ := all_by vs.toList h
  refine ⟨x.getD true, fun A E Q q => ?_⟩
  unfold hashByValue
  refine wpAny_bind (wpAny_specialOf ty F.slot_tuple_hash.lookup ?_)
  dsimp only
  refine wpAny_bind (wpAny_seqItems ho hd ?_)
  refine wpAny_bind ?_
  simp only [Option.getD_some]
  rw [← Array.forIn_toList]
  refine hx ?_
  cases x with
  | none => exact wpAny_pure q
  | some b => exact wpAny_pure q
mutual
theorem key_class : ∀ (k : NestedKey) (v : Value) (n : Nat) (s : Shared), NestedIs s.heap k v → k.depth ≤ n → Told P w s (ofAClassStatement n v) false
  | .none, _, n, s, x, _ => by cases x; cases n <;> exact told_pure
  | .num i, _, n, s, x, _ => by cases x <;> (cases n <;> exact told_pure)
  | .text y, _, n, s, x, _ => by cases x; cases n <;> exact told_pure
  | .tup ks, _, n, s, x, hn => by
    cases x with
    | tup h1 h2 h3 h4 =>
      simp only [NestedKey.depth] at hn
      cases n with
      | zero => omega
      | succ n => exact class_tup h1 h2 h3 (keys_class ks _ n s h4 (by omega))
theorem keys_class : ∀ (ks : List NestedKey) (vs : List Value) (n : Nat) (s : Shared), NestedAll s.heap ks vs → NestedKey.depthAll ks ≤ n → ∀ v ∈ vs, Told P w s (ofAClassStatement n v) false
  | [], _, n, s, x, _, v, hv => by cases x; cases hv
  | k :: ks, _, n, s, x, hn, v, hv => by
    cases x with
    | cons x1 x2 =>
      simp only [NestedKey.depthAll] at hn
      rcases List.mem_cons.mp hv with e | hv
      · rw [e]; exact key_class k _ n s x1 (by omega)
      · exact keys_class ks _ n s x2 (by omega) v hv
end
mutual
theorem key_byv : ∀ (k : NestedKey) (v : Value) (n : Nat) (s : Shared), NestedIs s.heap k v → k.depth ≤ n → ∃ b, Told P w s (hashByValue n v) b
  | .none, _, n, s, x, _ => by cases x; exact ⟨true, by cases n <;> exact told_pure⟩
  | .num i, _, n, s, x, _ => by cases x <;> exact ⟨true, by cases n <;> exact told_pure⟩
  | .text y, _, n, s, x, _ => by cases x; exact ⟨false, by cases n <;> exact told_pure⟩
  | .tup ks, _, n, s, x, hn => by
    cases x with
    | tup h1 h2 h3 h4 =>
      simp only [NestedKey.depth] at hn
      cases n with
      | zero => omega
      | succ n => exact hash_tup h1 h2 h3 (keys_byv ks _ n s h4 (by omega))
theorem keys_byv : ∀ (ks : List NestedKey) (vs : List Value) (n : Nat) (s : Shared), NestedAll s.heap ks vs → NestedKey.depthAll ks ≤ n → ∀ v ∈ vs, ∃ b, Told P w s (hashByValue n v) b
  | [], _, n, s, x, _, v, hv => by cases x; cases hv
  | k :: ks, _, n, s, x, hn, v, hv => by
    cases x with
    | cons x1 x2 =>
      simp only [NestedKey.depthAll] at hn
      rcases List.mem_cons.mp hv with e | hv
      · rw [e]; exact key_byv k _ n s x1 (by omega)
      · exact keys_byv ks _ n s x2 (by omega) v hv
end
/-- the value at an address is a key -/
def KeyAt (h : Heap) (m : Addr × NestedKey) : Prop := NestedIs h m.2 (.ref m.1) ∧ m.2.depth ≤ 8
theorem unseen {s : Shared} {x : Addr} {k : NestedKey} (hx : KeyAt s.heap (x, k)) : ∀ (ys : List Value), (∀ y ∈ ys, ∃ m, y = Value.ref m.1 ∧ KeyAt s.heap m) → Told P w s (searchCouldBeSeen (.ref x) ys) false := by
  intro ys hy A E Q q
  unfold searchCouldBeSeen
  refine wpAny_bind ?_
  refine wpAny_forIn_list _ (fun rest r s' => r.1 = none ∧ s' = s ∧ ∀ y ∈ rest, ∃ m, y = Value.ref m.1 ∧ KeyAt s.heap m) _ ?_ ?_ _ _ ⟨rfl, rfl, hy⟩
  · rintro z rest r s' ⟨_, rfl, hz⟩
    obtain ⟨m, rfl, hm⟩ := hz z (List.mem_cons_self ..)
    have hr := fun y (h : y ∈ rest) => hz y (List.mem_cons_of_mem _ h)
    dsimp only
    by_cases c : (x == m.1 || (carriedByValue (.ref x) && carriedByValue (.ref m.1))) = true
    · exact wp_if_pos c (wpAny_pure ⟨rfl, rfl, hr⟩)
    · refine wp_if_neg c (wpAny_bind (quiet_key _ _ 8 s' hx.1 hx.2 _ _ _ ?_))
      simp only [Bool.not_true, Bool.false_eq_true, if_false]
      refine wpAny_bind (quiet_key _ _ 8 s' hm.1 hm.2 _ _ _ ?_)
      simp only [Bool.not_true, Bool.false_eq_true, if_false]
      refine wpAny_bind (key_class _ _ 8 s' hx.1 hx.2 _ _ _ ?_)
      simp only [Bool.false_eq_true, if_false]
      refine wpAny_bind (key_class _ _ 8 s' hm.1 hm.2 _ _ _ ?_)
      simp only [Bool.false_eq_true, if_false]
      exact wpAny_pure ⟨rfl, rfl, hr⟩
  · rintro ⟨r1, r2⟩ s' ⟨e, rfl, _⟩
    simp only at e
    subst e
    exact wpAny_pure q
end
end Kn


/-! Kn: a set of keys of any depth, and looking for one in it. -/
namespace Kn
open PySem PySem.Spec PyProof.Rows L2
abbrev Mem := Addr × NestedKey
abbrev hk (w : World) (m : Mem) : Int := m.2.hash w
abbrev cell (w : World) (m : Mem) : Int × Value := (hk w m, Value.ref m.1)
/-- what stands in the table -/
structure Tab (w : World) (M : List Mem) (es : Array (Int × Value)) (t : SetTable) : Prop where
  rows : es.toList = M.map (cell w)
  ok : TabOk t (M.map (hk w))
  led : w.params.followText "set-order" = true ∨ t.led = true
  air : M.length * 5 < t.mask * 3
  nd : (M.map (·.2)).Nodup
  few : M.length < 64
section
variable {P : Program} {w : World} {A : Around} {E : Value → Shared → Prop} {s : Shared} {a : Addr} {M : List Mem} {es : Array (Int × Value)} {ep : Nat} {t : SetTable}
theorem Tab.size (T : Tab w M es t) : es.size = M.length := by
  rw [← Array.length_toList, T.rows, List.length_map]
theorem Tab.fits (T : Tab w M es t) : t.fits es.size = true := by
  have z1 := T.ok.sz
  rw [List.length_map] at z1
  have z2 := T.size
  have z3 := T.air
  unfold SetTable.fits SetTable.fill
  rw [T.ok.dm, Bool.and_eq_true]
  exact ⟨beq_iff_eq.mpr (by omega), decide_eq_true (by show t.place.size + 0 ≤ t.mask; omega)⟩
theorem Tab.at_ (T : Tab w M es t) {i : Nat} {m : Mem} (h : M[i]? = some m) : es[i]? = some (cell w m) := by
  have z : es.toList[i]? = some (cell w m) := by rw [T.rows, List.getElem?_map, h]; rfl
  rwa [Array.getElem?_toList] at z
theorem Tab.hash_at (T : Tab w M es t) {i : Nat} {m : Mem} (h : M[i]? = some m) : (es[i]?.map (·.1)).getD 0 = hk w m := by
  rw [T.at_ h]
  rfl
/-- the c-th place of the way of a hash -/
abbrev stepOf (t : SetTable) (h : Int) (c : Nat) : SetTable.Probe := nth t.mask (runAt t.mask (SetTable.bits h % (t.mask + 1)) (SetTable.bits h)) c
theorem step_j (t : SetTable) (h : Int) (c : Nat) : (stepOf t h c).j = way t.mask h c := rfl
theorem step_add (t : SetTable) (h : Int) (c q : Nat) : nth t.mask (stepOf t h c) q = stepOf t h (c + q) := (nth_add t.mask c _ q).symm
theorem nth_dummy (m : Nat) : ∀ (n : Nat) (p : SetTable.Probe), p.dummy = none → (nth m p n).dummy = none
  | 0, _, h => h
  | n + 1, p, h => nth_dummy m n (adv m p) (by unfold adv; split <;> exact h)
theorem step_dummy (t : SetTable) (h : Int) (c : Nat) : (stepOf t h c).dummy = none := nth_dummy t.mask c _ rfl
/-- looking for x, from the c-th place on; K is the first empty one -/
theorem look_from {o : Obj} (T : Tab w M es t) (ho : s.heap.get? a = some o) (hd : o.data = .set es ep t) (keys : ∀ m ∈ M, KeyAt s.heap m) {x : Mem} (hx : KeyAt s.heap x) (hu : A.units + 8 < cLine) {K : Nat} (few : K < 10 * SetTable.turns t.mask)
    (free : way t.mask (hk w x) K ∉ t.place.toList) (full : ∀ c, c < K → way t.mask (hk w x) c ∈ t.place.toList) {Q : SetFound → Shared → Prop}
    (yes : x.2 ∈ M.map (·.2) → Q (.there none) s) (no : x.2 ∉ M.map (·.2) → Q (.free (way t.mask (hk w x) K) false) s) :
    ∀ (f c : Nat) (st : Option SetTable.Probe), st.getD (t.probeStart (hk w x)) = stepOf t (hk w x) c → c ≤ K → K - c < f →
      (∀ (i : Nat) (m : Mem), M[i]? = some m → m.2 = x.2 → ∃ c', c ≤ c' ∧ c' < K ∧ t.place.toList[i]? = some (way t.mask (hk w x) c')) →
      wpAny (model P w) A (setSearchFrom a (.ref x.1) (hk w x) true f st) Q E s := by
  intro f
  induction f with
  | zero => exact fun c st _ _ hf _ => absurd hf (Nat.not_lt_zero _)
  | succ f ih =>
    intro c st hst hc hf left
    rw [setSearchFrom_succ]
    refine wpAny_bind (wpAny_setState_of ho hd T.fits ?_)
    dsimp only
    have gw : ¬ t.gaveWay = true := by
      unfold SetTable.gaveWay
      rw [mask_odd T.ok.mok]
      decide
    refine wp_if_neg gw ?_
    try refine wpAny_bind (wpAny_pure ?_)
    have sp := go_spec t T.ok.ris T.ok.dm (fun i => (es[i]?.map (·.1)).getD 0) (hk w x) (10 * SetTable.turns t.mask) (K - c) (stepOf t (hk w x) c) (step_dummy t _ c) (by omega)
      (fun q hq => by rw [step_add, step_j]; exact full _ (by omega)) (by rw [step_add, step_j, Nat.add_sub_cancel' hc]; exact free)
    -- one that is passed has another key
    have passed : ∀ (q : Nat), (∀ (q' i' : Nat), q' < q → t.place.toList[i']? = some (nth t.mask (stepOf t (hk w x) c) q').j → (es[i']?.map (·.1)).getD 0 ≠ hk w x) →
        ∀ (i : Nat) (m : Mem), M[i]? = some m → m.2 = x.2 → ∀ c', c ≤ c' → c' < c + q → t.place.toList[i]? ≠ some (way t.mask (hk w x) c') := by
      intro q nq i m hi hm c' h1 h2 h3
      refine nq (c' - c) i (by omega) (by rw [step_add, step_j, Nat.add_sub_cancel' h1]; exact h3) ?_
      rw [T.hash_at hi]
      exact congrArg (NestedKey.hash w) hm
    rcases sp with ⟨q, i, hq, hi, hh, nq, pr⟩ | ⟨nq, pr⟩
    · have pr' : t.probe (fun i => (es[i]?.map (·.1)).getD 0) (hk w x) (st.getD (t.probeStart (hk w x))) = some (.candidate (way t.mask (hk w x) (c + q)) i (stepOf t (hk w x) (c + (q + 1)))) := by
        rw [hst, ← step_j, ← step_add t (hk w x) c q, ← step_add t (hk w x) c (q + 1)]
        exact pr
      rw [step_add, step_j] at hi
      have inM : i < M.length := by
        have z1 := (List.getElem?_eq_some_iff.mp hi).1
        have z2 := T.ok.sz
        rw [List.length_map] at z2
        rw [Array.length_toList] at z1
        omega
      obtain ⟨m, hm⟩ : ∃ m, M[i]? = some m := ⟨M[i], List.getElem?_eq_getElem inM⟩
      have mM := List.mem_of_getElem? hm
      have km := keys m mM
      have live : t.slot (way t.mask (hk w x) (c + q)) = .live i := slot_live T.ok.ris hi
      rw [pr']
      dsimp only
      have rest : wpAny (model P w) A (searchRest a (.ref x.1) (hk w x) true f es t (way t.mask (hk w x) (c + q)) i (stepOf t (hk w x) (c + (q + 1)))) Q E s := by
        unfold searchRest
        rw [T.at_ hm]
        dsimp only
        refine wpAny_bind (wpAny_holding ((nestedKind P w).eqBool (show A.units + 8 < cLine from hu) (x := m.2) (y := x.2) km hx ?_))
        refine wpAny_bind (wpAny_setState_of ho hd T.fits ?_)
        dsimp only
        by_cases same : m.2 = x.2
        · exact wp_if_pos (by simp [same]) (wpAny_pure (yes (List.mem_map.mpr ⟨m, mM, same⟩)))
        · refine wp_if_neg (by simp [same]) ?_
          try refine wpAny_bind (wpAny_pure ?_)
          rw [sameMem]
          dsimp only
          simp only [if_true, live, T.at_ hm]
          refine wpAny_bind (wpAny_isSame_ref_self (wpAny_bind (wpAny_pure ?_)))
          simp only [if_true]
          refine wp_if_neg (by simp [same]) (ih (c + (q + 1)) _ rfl (by omega) (by omega) fun i' m' hi' hm' => ?_)
          obtain ⟨c', b1, b2, b3⟩ := left i' m' hi' hm'
          refine ⟨c', ?_, b2, b3⟩
          rcases Nat.lt_trichotomy c' (c + q) with z | z | z
          · exact absurd b3 (passed q nq i' m' hi' hm' c' b1 z)
          · rw [z] at b3
            have e := (slot_live T.ok.ris b3).symm.trans live
            injection e with e
            rw [e, hm] at hi'
            exact absurd (congrArg Prod.snd (Option.some.inj hi') ▸ hm') same
          · omega
      by_cases ld : t.led = true
      · refine wp_if_neg (by simp [ld]) ?_
        try refine wpAny_bind (wpAny_pure ?_)
        exact rest
      · refine wp_if_pos (by simp [ld]) (wpAny_bind (unseen hx _ (fun y hy => ?_) _ _ _ ?_))
        · obtain ⟨e, he, rfl⟩ := List.mem_map.mp hy
          have he : e ∈ es.toList := by
            have z : e ∈ es ∧ e.1 = hk w x := by simpa using he
            simpa using z.1
          rw [T.rows] at he
          obtain ⟨m', hm', rfl⟩ := List.mem_map.mp he
          exact ⟨m', rfl, keys m' hm'⟩
        · refine wp_if_neg (by decide) ?_
          try refine wpAny_bind (wpAny_pure ?_)
          exact rest
    · have pr' : t.probe (fun i => (es[i]?.map (·.1)).getD 0) (hk w x) (st.getD (t.probeStart (hk w x))) = some (.empty (way t.mask (hk w x) K) none) := by
        rw [hst, show way t.mask (hk w x) K = (nth t.mask (stepOf t (hk w x) c) (K - c)).j by rw [step_add, step_j, Nat.add_sub_cancel' hc]]
        exact pr
      rw [pr']
      dsimp only
      refine wpAny_pure (no fun there => ?_)
      obtain ⟨m, hm, e⟩ := List.mem_map.mp there
      obtain ⟨i, li, ei⟩ := List.getElem_of_mem hm
      have hi : M[i]? = some m := by rw [List.getElem?_eq_getElem li, ei]
      obtain ⟨c', b1, b2, b3⟩ := left i m hi e
      exact passed (K - c) nq i m hi e c' b1 (by omega) b3
/-- looking for x, to add it -/
theorem look {o : Obj} (T : Tab w M es t) (ho : s.heap.get? a = some o) (hd : o.data = .set es ep t) (keys : ∀ m ∈ M, KeyAt s.heap m) {x : Mem} (hx : KeyAt s.heap x) (hu : A.units + 8 < cLine) {Q : SetFound → Shared → Prop}
    (yes : x.2 ∈ M.map (·.2) → Q (.there none) s)
    (no : ∀ K, x.2 ∉ M.map (·.2) → way t.mask (hk w x) K ∉ t.place.toList → (∀ c, c < K → way t.mask (hk w x) c ∈ t.place.toList) → Q (.free (way t.mask (hk w x) K) false) s) :
    wpAny (model P w) A (setSearch a (.ref x.1) (hk w x) true) Q E s := by
  have air := T.air
  obtain ⟨K, k1, k2, k3⟩ := T.ok.first (by rw [List.length_map]; omega) (hk w x)
  have big : K < 100000 := by
    have z : 10 * SetTable.turns t.mask ≤ 1420 := by
      unfold SetTable.turns
      rcases T.ok.mok with e | e | e <;> omega
    omega
  unfold setSearch
  refine look_from T ho hd keys hx hu k1 k2 k3 yes (fun n => no K n k2 k3) 100000 0 none rfl (Nat.zero_le _) (by omega) fun i m hi hm => ?_
  have h1 : (M.map (hk w))[i]? = some (hk w x) := by
    rw [List.getElem?_map, hi]
    exact congrArg some (congrArg (NestedKey.hash w) hm)
  have li : i < t.place.toList.length := by
    have z1 := (List.getElem?_eq_some_iff.mp hi).1
    have z2 := T.ok.sz
    rw [List.length_map] at z2
    rw [Array.length_toList]
    omega
  obtain ⟨c, hc, e⟩ := T.ok.before k2 h1 (List.getElem?_eq_getElem li)
  exact ⟨c, Nat.zero_le _, hc, by rw [List.getElem?_eq_getElem li, e]⟩
end
end Kn


/-! Kn: adding a key to a set. -/
namespace Kn
open PySem PySem.Spec PyProof.Rows L2
structure KSet (w : World) (h : Heap) (a : Addr) (M : List Mem) : Prop where
  ex : ∃ o es ep t, h.get? a = some o ∧ o.ExactSet ∧ o.data = .set es ep t ∧ Tab w M es t
section
variable {P : Program} {w : World} {A : Around} {E : Value → Shared → Prop} {s : Shared} {a : Addr} {M : List Mem}
theorem KSet.move {h h' : Heap} (R : KSet w h a M) (k : ∀ o, h.get? a = some o → h'.get? a = some o) : KSet w h' a M := by
  obtain ⟨o, es, ep, t, ho, z⟩ := R.ex
  exact ⟨o, es, ep, t, k o ho, z⟩
theorem KeyAt.move {h h' : Heap} {m : Mem} (x : KeyAt h m) (k : ∀ b o, h.get? b = some o → h'.get? b = some o) : KeyAt h' m := ⟨NestedIs.at (fun b o _ _ e _ => k b o e) _ _ x.1, x.2⟩
/-- the set itself is no key -/
theorem KeyAt.same {h h' : Heap} {m : Mem} {o : Obj} {es : Array (Int × Value)} {ep : Nat} {t : SetTable} (x : KeyAt h m) (ho : h.get? a = some o) (hd : o.data = .set es ep t) (sb : Heap.SameBut a h h') : KeyAt h' m := by
  refine ⟨NestedIs.at (fun b ob vs n e d => ?_) _ _ x.1, x.2⟩
  by_cases z : b = a
  · subst z
    rw [ho] at e
    cases e
    rw [hd] at d
    cases d
  · exact (sb.2 b z).trans e
theorem picked {L : List Mem} : ∀ {idx : List Nat}, (∀ i ∈ idx, i < L.length) → ∀ {es : Array (Int × Value)}, es.toList = L.map (cell w) →
    idx.filterMap (fun i => es[i]?) = (idx.filterMap fun i => L[i]?).map (cell w) ∧ ((idx.filterMap fun i => L[i]?).map (hk w)) = idx.map fun i => (es.map (·.1)).getD i 0
  | [], _, _, _ => ⟨rfl, rfl⟩
  | i :: r, h, es, e => by
    obtain ⟨h1, h2⟩ := picked (fun j hj => h j (List.mem_cons_of_mem _ hj)) e
    have hi := h i (List.mem_cons_self ..)
    have a1 : es[i]? = some (cell w L[i]) := by
      rw [← Array.getElem?_toList, e, List.getElem?_map, List.getElem?_eq_getElem hi]
      rfl
    have a2 : (es.map (·.1)).getD i 0 = hk w L[i] := by
      rw [Array.getD_eq_getD_getElem?, Array.getElem?_map, a1]
      rfl
    refine ⟨?_, ?_⟩
    · rw [List.filterMap_cons_some a1, List.filterMap_cons_some (List.getElem?_eq_getElem hi), h1, List.map_cons]
    · rw [List.filterMap_cons_some (List.getElem?_eq_getElem hi), List.map_cons, List.map_cons, h2, a2]
theorem all_range (L : List Mem) : (List.range L.length).filterMap (fun i => L[i]?) = L := by
  have go : ∀ n, n ≤ L.length → (List.range n).filterMap (fun i => L[i]?) = L.take n := by
    intro n
    induction n with
    | zero => exact fun _ => rfl
    | succ n ih =>
      intro hn
      rw [List.range_succ, List.filterMap_append, ih (Nat.le_of_succ_le hn), List.take_add_one, List.getElem?_eq_getElem (show n < L.length from hn)]
      simp [List.getElem?_eq_getElem (show n < L.length from hn)]
  rw [go _ (Nat.le_refl _), List.take_length]
/-- the table is laid anew, larger -/
theorem set_relay {o : Obj} {es : Array (Int × Value)} {ep : Nat} {t : SetTable} (ho : s.heap.get? a = some o) (hx : o.ExactSet) (hd : o.data = .set es ep t) (rows : es.toList = M.map (cell w)) (ok : TabOk t (M.map (hk w))) (fit : M.length ≤ t.mask)
    (led : w.params.followText "set-order" = true ∨ t.led = true) (nd : (M.map (·.2)).Nodup) (few : M.length < 64) {want N : Nat} (hw : SetTable.sizeAbove want - 1 = N) (hN : MaskOk N) (h128 : SetTable.sizeAbove want ≤ 128) (air : M.length * 5 < N * 3)
    {Q : Unit → Shared → Prop} (q : ∀ h' M', Heap.SameBut a s.heap h' → KSet w h' a M' → M'.Perm M → Q () { s with heap := h' }) : wpAny (model P w) A (setRelay a want) Q E s := by
  have sz : es.size = M.length := by rw [← Array.length_toList, rows, List.length_map]
  have fits : t.fits es.size = true := by
    have z := ok.sz
    rw [List.length_map] at z
    unfold SetTable.fits SetTable.fill
    rw [ok.dm, Bool.and_eq_true]
    exact ⟨beq_iff_eq.mpr (by omega), decide_eq_true (by show t.place.size + 0 ≤ t.mask; omega)⟩
  obtain ⟨t', ord, e, perm, T, em, el, _, _⟩ := relaid_ok t (hs := es.map (·.1)) hw hN (by rw [Array.size_map]; omega)
  rw [Array.size_map, sz] at perm
  obtain ⟨r1, r2⟩ := picked (w := w) (L := M) (idx := ord.toList) (fun i hi => List.mem_range.mp (perm.mem_iff.mp hi)) rows
  have p2 : (ord.toList.filterMap fun i => M[i]?).Perm M := by
    have z := perm.filterMap fun i => M[i]?
    rwa [all_range] at z
  rw [← r2] at T
  generalize (ord.toList.filterMap fun i => M[i]?) = M' at r1 r2 p2 T
  have l2 : (ord.filterMap (es[·]?)).toList = M'.map (cell w) := by
    rw [Array.toList_filterMap]
    exact r1
  have s2 : (ord.filterMap (es[·]?)).size = es.size := by
    rw [← Array.length_toList, l2, List.length_map, p2.length_eq, sz]
  rw [setRelay_eq]
  refine wpAny_bind (wpAny_setState_of ho hd fits ?_)
  dsimp only
  refine wp_if_neg (by rw [sizeLine_eq]; omega) ?_
  try refine wpAny_bind (wpAny_pure ?_)
  rw [e]
  dsimp only
  refine wpAny_bind (wp_if_neg (by rw [s2]; simp) ?_)
  try refine wpAny_bind (wpAny_pure ?_)
  refine wpAny_pure ?_
  dsimp only
  refine wpAny_storeSet_of ho hd ?_ (by rw [s2, sizeLine_eq]; omega)
  refine q _ M' (Heap.SameBut.update ..) ⟨_, _, _, t', store_at ho hd, ⟨hx.1, hx.2.1, hx.2.2⟩, rfl, l2, T, by rw [el]; exact led, by rw [p2.length_eq, em]; exact air, (p2.map (·.2)).nodup_iff.mpr nd, by rw [p2.length_eq]; exact few⟩ p2
theorem TabOk.plain {t : SetTable} {hs : List Int} (T : TabOk t hs) (b : Bool) : TabOk { t with plain := b } hs := ⟨T.ris, T.dm, T.sz, T.mok, T.bd, T.reach⟩
/-- the end of adding: the table is stored, and laid anew where it got too full -/
theorem set_put {o : Obj} {es es1 : Array (Int × Value)} {ep : Nat} {t0 t : SetTable} {M1 : List Mem} (ho : s.heap.get? a = some o) (hx : o.ExactSet) (hd : o.data = .set es ep t0) (rows : es1.toList = M1.map (cell w)) (ok : TabOk t (M1.map (hk w)))
    (led : w.params.followText "set-order" = true ∨ t.led = true) (nd : (M1.map (·.2)).Nodup) (few : M1.length < 64) (old : (M1.length - 1) * 5 < t.mask * 3) (pos : 0 < M1.length) (fill : t.fill = M1.length) {n : Nat} (hn : n + 1 = M1.length)
    {Q : Bool → Shared → Prop} (q : ∀ h' M', Heap.SameBut a s.heap h' → KSet w h' a M' → M'.Perm M1 → Q true { s with heap := h' }) :
    wpAny (model P w) A (do
      storeSet a es1 t
      if (!false && t.tooFull) = true then setRelay a (SetTable.grown (n + 1))
      pure true) Q E s := by
  have sz : es1.size = M1.length := by rw [← Array.length_toList, rows, List.length_map]
  refine wpAny_bind (wpAny_storeSet_of ho hd ?_ (by rw [sz, sizeLine_eq]; omega))
  have sb : Heap.SameBut a s.heap (s.heap.update a (Obj.putSet es1 t)) := Heap.SameBut.update ..
  have o1 := store_at (es' := es1) (t' := t) ho hd
  generalize s.heap.update a (Obj.putSet es1 t) = h1 at sb o1 ⊢
  by_cases full : t.tooFull = true
  · have big : M1.length * 5 ≥ t.mask * 3 := by
      have z := full
      unfold SetTable.tooFull at z
      rw [decide_eq_true_eq, fill] at z
      exact z
    have two : (t.mask = 7 ∧ n = 4) ∨ (t.mask = 31 ∧ n = 18) := by
      rcases ok.mok with e | e | e
      · exact .inl ⟨e, by omega⟩
      · exact .inr ⟨e, by omega⟩
      · omega
    have go : ∀ N, SetTable.sizeAbove (SetTable.grown (n + 1)) - 1 = N → MaskOk N → SetTable.sizeAbove (SetTable.grown (n + 1)) ≤ 128 → M1.length * 5 < N * 3 →
        wpAny (model P w) A (setRelay a (SetTable.grown (n + 1))) (fun _ s' => wpAny (model P w) A (pure true) Q E s') E { s with heap := h1 } := fun N e1 e2 e3 e4 =>
      set_relay (s := { s with heap := h1 }) o1 ⟨hx.1, hx.2.1, hx.2.2⟩ rfl rows ok (by rcases two with ⟨z, y⟩ | ⟨z, y⟩ <;> omega) led nd few e1 e2 e3 e4 fun h2 M2 sb2 R2 pm => wpAny_pure (q h2 M2 (sb.trans sb2) R2 pm)
    simp only [full, Bool.not_false, Bool.and_self, if_true]
    refine wpAny_bind ?_
    rcases two with ⟨_, y⟩ | ⟨_, y⟩
    · exact go 31 (by rw [y, size_20]) (.inr (.inl rfl)) (by rw [y, size_20]; decide) (by omega)
    · exact go 127 (by rw [y, size_76]) (.inr (.inr rfl)) (by rw [y, size_76]; decide) (by omega)
  · have room : M1.length * 5 < t.mask * 3 := by
      have z := full
      unfold SetTable.tooFull at z
      rw [decide_eq_true_eq, fill] at z
      omega
    simp only [full, Bool.and_false, Bool.false_eq_true, if_false]
    try refine wpAny_bind (wpAny_pure ?_)
    exact wpAny_pure (q h1 M1 sb ⟨_, _, _, t, o1, ⟨hx.1, hx.2.1, hx.2.2⟩, rfl, rows, ok, led, room, nd, few⟩ (List.Perm.refl _))
/-- adding -/
theorem set_add (R : KSet w s.heap a M) (keys : ∀ m ∈ M, KeyAt s.heap m) {x : Mem} (hx : KeyAt s.heap x) (hu : A.units + 8 < cLine) (few : M.length + 1 < 64) {Q : Bool → Shared → Prop}
    (q : ∀ b h' M', Heap.SameBut a s.heap h' → KSet w h' a M' → (x.2 ∈ M.map (·.2) → M' = M) → (x.2 ∉ M.map (·.2) → M'.Perm (x :: M)) → (∀ m ∈ M', KeyAt h' m) → Q b { s with heap := h' }) :
    wpAny (model P w) A (setAddHashed a (.ref x.1) (hk w x)) Q E s := by
  obtain ⟨o, es, ep, t, ho, hex, hd, T⟩ := R.ex
  have air := T.air
  unfold setAddHashed
  refine wpAny_holding ?_
  rw [show (100000 : Nat) = 99999 + 1 from rfl, setAddHashedIn_succ]
  refine wpAny_bind (wpAny_setState_of ho hd T.fits ?_)
  dsimp only
  refine wp_if_neg (by simp [byScan, Value.scannable]) ?_
  try refine wpAny_bind (wpAny_pure ?_)
  refine wpAny_bind (look T ho hd keys hx hu (fun there => ?_) fun K new free full => ?_)
  · dsimp only
    exact wpAny_pure (q false s.heap M (Heap.SameBut.refl a s.heap) R (fun _ => rfl) (fun z => absurd there z) keys)
  · dsimp only
    refine wpAny_bind (wpAny_setState_of ho hd T.fits ?_)
    dsimp only
    obtain ⟨b, hb⟩ := key_byv (P := P) (w := w) _ _ 8 s hx.1 hx.2
    obtain ⟨q1, q2, q3, q4, q5, q6, q7, q8, q9⟩ := T.ok.put free full
    generalize t.put (way t.mask (hk w x) K) = pt at q1 q3 q4 q5 q6 q7 q8 q9 ⊢
    obtain ⟨t1, p⟩ := pt
    dsimp only at q1 q3 q4 q5 q6 q7 q8 q9 ⊢
    subst q1
    have rows : (SetTable.insertAt es (SetTable.below t.place (way t.mask (hk w x) K)) (hk w x, Value.ref x.1)).toList = (M.take (SetTable.below t.place (way t.mask (hk w x) K)) ++ x :: M.drop (SetTable.below t.place (way t.mask (hk w x) K))).map (cell w) := by
      rw [SetTable.toList_insertAt, T.rows, List.map_append, List.map_cons, List.map_take, List.map_drop]
    have hs : (M.map (hk w)).take (SetTable.below t.place (way t.mask (hk w x) K)) ++ hk w x :: (M.map (hk w)).drop (SetTable.below t.place (way t.mask (hk w x) K)) = (M.take (SetTable.below t.place (way t.mask (hk w x) K)) ++ x :: M.drop (SetTable.below t.place (way t.mask (hk w x) K))).map (hk w) := by
      rw [List.map_append, List.map_cons, List.map_take, List.map_drop]
    rw [hs] at q3
    have pm := put_perm M (SetTable.below t.place (way t.mask (hk w x) K)) x
    generalize SetTable.below t.place (way t.mask (hk w x) K) = p at q2 q3 rows pm ⊢
    generalize M.take p ++ x :: M.drop p = M1 at q3 rows pm
    have len : M1.length = M.length + 1 := pm.length_eq
    have nd1 : (M1.map (·.2)).Nodup := by
      refine (pm.map (·.2)).nodup_iff.mpr ?_
      rw [List.map_cons]
      exact List.nodup_cons.mpr ⟨new, T.nd⟩
    generalize SetTable.insertAt es p (hk w x, Value.ref x.1) = es1 at rows ⊢
    rw [List.length_map] at q9
    have fin : ∀ (c : Bool), wpAny (model P w) A (do
        storeSet a es1 { t1 with plain := c }
        if (!false && ({ t1 with plain := c } : SetTable).tooFull) = true then setRelay a (SetTable.grown (M.length + 1))
        pure true) Q E s := fun c =>
      set_put (M1 := M1) ho hex hd rows (TabOk.plain q3 c) (by show _ ∨ t1.led = true; rw [q5]; exact T.led) nd1 (by omega) (by show (M1.length - 1) * 5 < t1.mask * 3; rw [q4]; omega) (by omega) (by show t1.fill = _; omega) (by omega)
        fun h' M' sb R' pm' => q true h' M' sb R' (fun z => absurd z new) (fun _ => pm'.trans pm) fun m hm => by
          rcases List.mem_cons.mp (pm.mem_iff.mp (pm'.mem_iff.mp hm)) with e | hm
          · rw [e]
            exact hx.same ho hd sb
          · exact (keys m hm).same ho hd sb
    have same : ∀ c : Bool, t1.plain = c → ({ t1 with plain := c } : SetTable) = t1 := fun c e => by subst e; rfl
    have sz := T.size
    rw [sz]
    cases pl : t1.plain
    · have f := fin false
      rw [same false pl] at f
      simp only [Bool.false_eq_true, if_false]
      first
        | exact wpAny_bind (wpAny_pure f)
        | exact f
    · simp only [if_true]
      refine wpAny_bind (hb _ _ _ ?_)
      cases b
      · simp only [Bool.false_eq_true, if_false]
        exact fin false
      · have f := fin true
        rw [same true pl] at f
        simp only [if_true]
        exact f
end
end Kn


namespace Kn
open PySem PySem.Spec PyProof.Rows L2
/-! ### a set of texts -/
/-- the text of an entry -/
def txt (e : Int × Value) : Str := match e.2 with
  | .str x _ => x
  | _ => Str.empty
def TxtE (w : World) (e : Int × Value) : Prop := ∃ (x : Str) (u : Tok), e.2 = .str x u ∧ e.1 = hashStr w x
/-- at a stands a set with the members L, no two alike -/
structure TxtSet (w : World) (h : Heap) (a : Addr) (L : List Str) : Prop where
  ex : ∃ (o : Obj) (es : Array (Int × Value)) (ep : Nat) (t : SetTable), h.get? a = some o ∧ o.ExactSet ∧ o.data = .set es ep t ∧ (∀ e ∈ es.toList, TxtE w e) ∧
    (es.toList.map txt).Perm L ∧ t.fits es.size = true ∧ Ris t.place.toList ∧ (w.params.followText "set-order" = true ∨ t.led = true)
  nd : L.Nodup
  few : L.length < scanBound
def addT (x : Str) (L : List Str) : List Str := if x ∈ L then L else x :: L
theorem mem_addT {x y : Str} {L : List Str} : y ∈ addT x L ↔ y = x ∨ y ∈ L := by
  unfold addT
  split
  · rename_i m
    exact ⟨.inr, fun z => z.elim (fun q => q ▸ m) id⟩
  · exact List.mem_cons
theorem len_addT (x : Str) (L : List Str) : (addT x L).length ≤ L.length + 1 := by
  unfold addT
  split
  · omega
  · exact Nat.le_refl _
theorem nodup_addT {x : Str} {L : List Str} (h : L.Nodup) : (addT x L).Nodup := by
  unfold addT
  split
  · exact h
  · rename_i m
    exact List.nodup_cons.mpr ⟨m, h⟩
section
variable {P : Program} {w : World} {A : Around} {E : Value → Shared → Prop} {s : Shared} {a : Addr} {L : List Str}
theorem TxtSet.move {h h' : Heap} (R : TxtSet w h a L) (k : ∀ o, h.get? a = some o → h'.get? a = some o) : TxtSet w h' a L := by
  obtain ⟨⟨o, es, ep, t, ho, z⟩, n, f⟩ := R
  exact ⟨⟨o, es, ep, t, k o ho, z⟩, n, f⟩
theorem txt_elems {l : List (Int × Value)} (g : ∀ e ∈ l, TxtE w e) : ElemsOf (PySem.strKind P w) l := by
  intro e m
  obtain ⟨x, u, e1, e2⟩ := g e m
  rw [e1]
  exact ⟨⟨x, strKind_is P w x u, e2⟩, rfl⟩
theorem txt_is {e : Int × Value} (g : TxtE w e) (x : Str) : (PySem.strKind P w).is x e.2 = true ↔ txt e = x := by
  obtain ⟨y, u, e1, _⟩ := g
  unfold txt
  rw [e1]
  constructor
  · intro z
    obtain ⟨u', e'⟩ := Value.isStrOf_shape (x := x) (v := .str y u) z
    cases e'
    rfl
  · rintro rfl
    exact strKind_is P w _ u
theorem len_es {es : Array (Int × Value)} (p : (es.toList.map txt).Perm L) : es.size = L.length := by
  have q := p.length_eq
  rw [List.length_map, Array.length_toList] at q
  exact q
/-- the end of an addition: the table is stored, and laid out anew where it got too full -/
theorem txt_store {gv : Bool → Sem Unit} (free : ∀ (b : Bool) (s1 : Shared) (W : Unit → Shared → Prop), W () s1 → wpAny (model P w) A (gv b) W E s1)
    {o : Obj} {es es1 : Array (Int × Value)} {ep : Nat} {t t2 : SetTable} {L1 : List Str} (ho : s.heap.get? a = some o) (hx : o.ExactSet) (hd : o.data = .set es ep t)
    (g1 : ∀ e ∈ es1.toList, TxtE w e) (p1 : (es1.toList.map txt).Perm L1) (nd : L1.Nodup) (few : L1.length < scanBound) (f2 : t2.fits es1.size = true) (r2 : Ris t2.place.toList)
    (l2 : w.params.followText "set-order" = true ∨ t2.led = true) {dm : Bool} {R : Option Bool → Shared → Prop} (out : ∀ h', Heap.SameBut a s.heap h' → TxtSet w h' a L1 → R (some true) { s with heap := h' }) :
    wpAny (model P w) A (do
      storeSet a es1 t2
      if (!dm && t2.tooFull) = true then do
        gv (relayAll t2 es1 (SetTable.grown es1.size)).2.2
        storeSet a (relayAll t2 es1 (SetTable.grown es1.size)).1 (relayAll t2 es1 (SetTable.grown es1.size)).2.1
        pure (some true)
      else pure (some true)) R E s := by
  have b1 : es1.size < scanBound := by rw [len_es p1]; exact few
  refine wpAny_bind (wpAny_storeSet_of ho hd ?_ (fits_of_scanBound b1))
  have o1 := store_at (es' := es1) (t' := t2) ho hd
  have same1 := Heap.SameBut.update s.heap a (Obj.putSet es1 t2)
  split
  · have q1 := relayAll_perm t2 es1 (SetTable.grown es1.size)
    have q2 := relayAll_fits t2 es1 (SetTable.grown es1.size)
    have q3 := relayAll_ris t2 es1 (SetTable.grown es1.size)
    have q4 := relayAll_led t2 es1 (SetTable.grown es1.size)
    revert q1 q2 q3 q4
    generalize relayAll t2 es1 (SetTable.grown es1.size) = Y
    rcases Y with ⟨es2, t3, gave⟩
    intro q1 q2 q3 q4
    dsimp only at q1 q2 q3 q4 ⊢
    have p2 : (es2.toList.map txt).Perm L1 := (q1.map txt).trans p1
    have b2 : es2.size < scanBound := by rw [len_es p2]; exact few
    refine wpAny_bind (free _ _ _ (wpAny_bind (wpAny_storeSet_of o1 rfl ?_ (fits_of_scanBound b2))))
    refine wpAny_pure (out _ (same1.trans (Heap.SameBut.update _ a _)) ⟨⟨_, es2, _, t3, store_at (es' := es2) (t' := t3) o1 rfl, hx, rfl, fun e m => g1 e (q1.mem_iff.mp m), p2, q2, q3, ?_⟩, nd, few⟩)
    exact l2.imp id fun z => by rw [q4]; exact z
  · exact wpAny_pure (out _ same1 ⟨⟨_, es1, _, t2, o1, hx, rfl, g1, p1, f2, r2, l2⟩, nd, few⟩)
theorem txt_add {x : Str} {u : Tok} {Q : Bool → Shared → Prop} (R : TxtSet w s.heap a L) (room : L.length + 1 < scanBound)
    (hQ : ∀ h' b, Heap.SameBut a s.heap h' → TxtSet w h' a (addT x L) → Q b { s with heap := h' }) : wpAny (model P w) A (setAddHashed a (.str x u) (hashStr w x)) Q E s := by
  obtain ⟨⟨o, es, ep, t, ho, hx, hd, g, p, f, r, l⟩, nd, few⟩ := R
  have el : ElemsOf (PySem.strKind P w) es.toList := txt_elems g
  have b0 : es.size < scanBound := by rw [len_es p]; exact few
  show wpAny (model P w) A (setAddHashed a (.str x u) ((PySem.strKind P w).hash x)) Q E s
  unfold setAddHashed setAddHashedIn
  refine wpAny_holding (wpAny_bind (wpAny_setState_of ho hd f ?_))
  dsimp only
  rw [byScan_of (show (Value.str x u).scannable = true from rfl) b0 el]
  simp only [↓reduceIte]
  unfold setAddByScan
  refine wpAny_bind (wpAny_bind (wpAny_rule (wpAny_bind (wpAny_setScan_of (strKind_is P w x u) ho hd f el ?_))))
  cases fi : List.findIdx? (fun e => (PySem.strKind P w).is x e.2) es.toList with
  | some j =>
    dsimp only
    obtain ⟨lt, at_, _⟩ := List.findIdx?_eq_some_iff_getElem.mp fi
    have m : x ∈ L := p.mem_iff.mp (List.mem_map.mpr ⟨_, List.getElem_mem lt, (txt_is (g _ (List.getElem_mem lt)) x).mp at_⟩)
    have same : addT x L = L := if_pos m
    refine wpAny_pure (wpAny_pure (hQ s.heap _ (Heap.SameBut.refl a s.heap) ?_))
    rw [same]
    exact ⟨⟨o, es, ep, t, ho, hx, hd, g, p, f, r, l⟩, nd, few⟩
  | none =>
    dsimp only
    have nm : x ∉ L := fun z => by
      obtain ⟨e, m, q⟩ := List.mem_map.mp (p.mem_iff.mpr z)
      exact absurd ((txt_is (P := P) (g e m) x).mpr q) (by rw [List.findIdx?_eq_none_iff.mp fi e m]; decide)
    have more : addT x L = x :: L := if_neg nm
    have gw : ∀ (b : Bool) {s1 : Shared} {W : Unit → Shared → Prop}, W () s1 → wpAny (model P w) A (match b with | true => rule "set.scan.the-table-gave-way" | false => pure ()) W E s1 := by
      intro b s1 W q
      cases b
      · exact wpAny_pure q
      · exact wpAny_rule q
    have q1 := layNew_perm t es ((PySem.strKind P w).hash x) (.str x u)
    have q2 := layNew_fits t es ((PySem.strKind P w).hash x) (.str x u)
    have q3 := layNew_ris t es ((PySem.strKind P w).hash x) (.str x u) r
    have q4 := layNew_led t es ((PySem.strKind P w).hash x) (.str x u)
    revert q1 q2 q3 q4
    generalize layNew t es ((PySem.strKind P w).hash x) (.str x u) = Y
    rcases Y with ⟨es1, t1, dm, gave⟩
    intro q1 q2 q3 q4
    dsimp only at q1 q2 q3 q4 ⊢
    rw [Array.toList_push] at q1
    have c : es1.toList.Perm (((PySem.strKind P w).hash x, Value.str x u) :: es.toList) := q1.trans (List.perm_append_singleton _ _)
    have g1 : ∀ e ∈ es1.toList, TxtE w e := by
      intro e m
      rcases List.mem_cons.mp (c.mem_iff.mp m) with rfl | m
      · exact ⟨x, u, rfl, rfl⟩
      · exact g e m
    have p1 : (es1.toList.map txt).Perm (addT x L) := by
      rw [more]
      exact (c.map txt).trans (p.cons x)
    have few1 : (addT x L).length < scanBound := Nat.lt_of_le_of_lt (len_addT x L) room
    have l1 : w.params.followText "set-order" = true ∨ t1.led = true := l.imp id fun z => by rw [q4]; exact z
    have fin : ∀ h', Heap.SameBut a s.heap h' → TxtSet w h' a (addT x L) → wpAny (model P w) A (pure true) Q E { s with heap := h' } := fun h' k r => wpAny_pure (hQ h' _ k r)
    refine wpAny_bind (gw _ ?_)
    split
    · refine wpAny_bind ?_
      rw [hashByValue_scannable 8 (show (Value.str x u).scannable = true from rfl)]
      refine wpAny_pure (txt_store (fun b s1 W q => gw b q) ho hx hd g1 p1 (nodup_addT nd) few1 ?_ ?_ ?_ fun h' k r => ?_)
      · first | exact q2 | (split <;> first | exact q2 | exact SetTable.fits_plain_off q2)
      · first | exact q3 | (split <;> exact q3)
      · first | exact l1 | (split <;> exact l1)
      · exact fin h' k r
    · refine wpAny_bind (wpAny_pure ?_)
      simp only [↓reduceIte]
      refine txt_store (fun b s1 W q => gw b q) ho hx hd g1 p1 (nodup_addT nd) few1 q2 q3 l1 fun h' k r => ?_
      exact fin h' k r
end
end Kn


namespace Kn
open PySem PySem.Spec PyProof.Rows L2
/-- what stands in a set behind these texts, one after another -/
def gathered (xs : List Str) : List Str := xs.foldl (fun L x => addT x L) []
theorem gathered_snoc (xs : List Str) (x : Str) : gathered (xs ++ [x]) = addT x (gathered xs) := by
  unfold gathered
  rw [List.foldl_append]
  rfl
theorem gathered_ind {R : List Str → List Str → Prop} (h0 : R [] []) (h1 : ∀ xs L x, R xs L → R (xs ++ [x]) (addT x L)) (xs : List Str) : R xs (gathered xs) := by
  have all : ∀ n (xs : List Str), xs.length = n → R xs (gathered xs) := by
    intro n
    induction n with
    | zero => intro xs h; rw [List.eq_nil_of_length_eq_zero h]; exact h0
    | succ n ih =>
      intro xs h
      have ne : xs ≠ [] := by rintro rfl; cases h
      rw [← List.dropLast_concat_getLast ne, gathered_snoc]
      exact h1 _ _ _ (ih _ (by rw [List.length_dropLast, h]; rfl))
  exact all _ xs rfl
theorem mem_gathered {xs : List Str} {y : Str} : y ∈ gathered xs ↔ y ∈ xs :=
  gathered_ind (R := fun xs L => y ∈ L ↔ y ∈ xs) Iff.rfl (fun xs L x h => by rw [mem_addT, h, List.mem_append, List.mem_singleton]; exact Or.comm) xs
theorem nodup_gathered (xs : List Str) : (gathered xs).Nodup := gathered_ind (R := fun _ L => L.Nodup) List.nodup_nil (fun _ _ _ h => nodup_addT h) xs
theorem len_gathered (xs : List Str) : (gathered xs).length ≤ xs.length :=
  gathered_ind (R := fun xs L => L.length ≤ xs.length) (Nat.le_refl _) (fun xs L x h => by have := len_addT x L; rw [List.length_append]; show _ ≤ xs.length + 1; omega) xs
theorem txt_fresh {w : World} {h : Heap} {a : Addr} (ho : h.get? a = some { cls := .type "set", dict := none, data := .set #[] 0 (.fresh 0 0 (!w.params.followText "set-order")) }) : TxtSet w h a [] := by
  refine ⟨⟨_, #[], 0, _, ho, ⟨rfl, rfl, rfl⟩, rfl, fun e m => ?_, List.Perm.refl _, rfl, List.Pairwise.nil, ?_⟩, List.nodup_nil, by decide⟩
  · cases m
  · cases hq : w.params.followText "set-order" with
    | true => exact .inl rfl
    | false => exact .inr rfl
section
variable {P : Program} {w : World} {A : Around} {E : Value → Shared → Prop} {s : Shared}
/-- set.update's loop over anything that yields texts -/
theorem txt_loop {I : Addr} {fp wr : List Addr} {G : Array GenState → Array GenState → Prop} {n : Nat} {Pv : Nat → Value → Prop} {St : Nat → Shared → Prop} {R : Result → Shared → Prop} (W : WalksS P w A.in1 I fp wr G n Pv St) (a : Addr) (out : a ∉ fp)
    (xs : List Str) (hn : xs.length = n) (room : n + 1 < scanBound) (val : ∀ i v, Pv i v → ∃ x u, xs[i]? = some x ∧ v = .str x u) :
    ∀ (k i : Nat) (s : Shared), n - i = k → i ≤ n → St i s → TxtSet w s.heap a (gathered (xs.take i)) → (∀ s', Moved (a :: wr) G s s' → TxtSet w s'.heap a (gathered xs) → R (.ok (.ret .none)) s') →
      codeAny (model P w) A (.builtin "set.update.loop" ⟨[.ref a, .ref I], []⟩) R s := by
  have ow : a ∉ wr := fun z => out (W.sub _ z)
  have wider : ∀ b ∈ wr, b ∈ a :: wr := fun b m => List.mem_cons_of_mem _ m
  intro k
  induction k with
  | zero =>
    intro i s hk hi st T fin
    obtain rfl : i = n := by omega
    refine codeAny_builtin PyProof.Rows.F.entry_set_update_loop ?_
    rw [Around.under_plainId PyProof.Rows.F.plain_set_update_loop _]
    show wpAny (model P w) A.in1 (pyNext (.ref I) >>= _) _ _ s
    refine wpAny_bind (W.done s _ _ st fun s' mv => ?_)
    show wpAny (model P w) A.in1 (ret Value.none) _ _ s'
    rw [List.take_of_length_le (by omega)] at T
    exact wpAny_pure (fin s' (mv.mono wider) (T.move fun o e => mv.heap a o ow e))
  | succ k ih =>
    intro i s hk hi st T fin
    have lt : i < n := by omega
    refine codeAny_builtin PyProof.Rows.F.entry_set_update_loop ?_
    rw [Around.under_plainId PyProof.Rows.F.plain_set_update_loop _]
    show wpAny (model P w) A.in1 (pyNext (.ref I) >>= _) _ _ s
    refine wpAny_bind (W.item i s _ _ lt st fun v s' hv st' mv => ?_)
    obtain ⟨x, u, hx, rfl⟩ := val i v hv
    have T' := T.move fun o e => mv.heap a o ow e
    show wpAny (model P w) A.in1 (holding [Value.str x u] (setAdd a (.str x u)) >>= _) _ _ s'
    refine wpAny_bind (wpAny_holding ?_)
    unfold setAdd
    have lr := len_gathered (xs.take i)
    have lt2 : (xs.take i).length ≤ i := by rw [List.length_take]; omega
    refine wpAny_holding (wpAny_bind ((PySem.strKind P w).pyHash (k := x) (strKind_is _ _ _ _) (txt_add (s := { s' with toks := s'.toks + 1 }) T' (by omega) fun h' b same T2 => ?_)))
    rw [← gathered_snoc] at T2
    have tk : xs.take i ++ [x] = xs.take (i + 1) := by rw [List.take_add_one, hx]; rfl
    rw [tk] at T2
    have stay : ∀ b o, b ≠ a → s'.heap.get? b = some o → h'.get? b = some o := fun b o z e => (same.2 b z).trans e
    refine wpAny_pure ⟨plainId_quiet PyProof.Rows.F.plain_set_update_loop _, ih (i + 1) _ (by omega) lt (W.frame _ s' _ _ st' (Nat.le_succ _) fun b m o e => stay b o (fun z => out (z ▸ m)) e) T2 fun s'' mv2 T3 => ?_⟩
    exact fin s'' (Moved.trans W.gtrans ((mv.mono wider).then_heap (Nat.le_succ _) fun b o m e => stay b o (fun z => m (z ▸ List.mem_cons_self ..)) e) mv2) T3
end
end Kn


namespace Kn
open PySem PySem.Spec PyProof.Rows L2
abbrev setObj0 (w : World) : Obj := { cls := .type "set", dict := none, data := .set #[] 0 (.fresh 0 0 (!w.params.followText "set-order")) }
section
variable {P : Program} {w : World} {A : Around} {E : Value → Shared → Prop} {s : Shared}
/-- set(xs) of a list of texts -/
theorem txt_set {l : Addr} {its : Array Value} (xs : List Str) {Q : Value → Shared → Prop} (hh : A.handled = none) (hl : s.heap.IsList l its) (vs : StrsAre its.toList xs) (room : xs.length + 1 < scanBound)
    (q : ∀ (h' : Heap) (tk : Nat), TxtSet w h' s.heap.objs.size (gathered xs) → (∀ b o, s.heap.get? b = some o → h'.get? b = some o) → Q (.ref s.heap.objs.size) { s with heap := h', toks := tk }) :
    wpAny (model P w) A (call (.type "set") [.ref l]) Q E s := by
  have sz : xs.length = its.size := by rw [← StrsAre.len_eq vs, Array.length_toList]
  obtain ⟨cl, tl, hmro⟩ := PySem.F.called_set.mro
  have k1 := PySem.F.called_set.made
  have k2 := PySem.F.called_set.sub
  have k3 := PySem.F.called_set.notType
  have k4 := PySem.F.called_set.canCreate
  have k5 := PySem.F.typeCall_set_1 (.ref l)
  refine wpAny_call (codeAny_of_tree ?_)
  show wpAny _ _ (callAny (.type "set") _) _ _ _
  refine wpAny_pure ⟨Code.quiet_builtin _ (by decide +kernel), codeAny_builtin PySem.F.entry_type_call ?_⟩
  rw [Around.under_plain (weight_type_call_type "set" [.ref l] []) rfl]
  repeat (any_goals (first | assumption | wp_step))
  refine codeAny_mono (code_set_led1 (.ref l) (E := E) (Q₁ := fun v s1 => v = .ref s.heap.objs.size ∧ s1 = { s with heap := s.heap.push (setObj0 w) }) ⟨rfl, rfl⟩) fun r s1 hr => ?_
  rcases r with e | fl
  · exact hr
  cases fl with
  | brk => exact hr.elim
  | cont => exact hr.elim
  | next => exact hr.elim
  | ret v =>
    obtain ⟨rfl, rfl⟩ := hr
    have at0 : (s.heap.push (setObj0 w)).get? s.heap.objs.size = some (setObj0 w) := Heap.get?_push_size _ rfl
    have ty0 : Shared.TypeIs { s with heap := s.heap.push (setObj0 w) } (.ref s.heap.objs.size) "set" := ⟨_, at0, rfl⟩
    have k6 := PySem.F.called_set.init.lookup
    have k7 := PySem.F.called_set.init.bind (.ref s.heap.objs.size)
    repeat (any_goals (first | assumption | wp_step))
    refine codeAny_mono (codeAny_call_builtin (R := wants (fun r s2 => r = .none ∧ ∃ h' tk, s2 = { s with heap := h', toks := tk } ∧ TxtSet w h' s.heap.objs.size (gathered xs) ∧ ∀ b o, s.heap.get? b = some o → h'.get? b = some o) E)
      PySem.F.called_set.init.plain PySem.F.entry_set_init (check_set_init_1 ty0 ?_)) fun r2 s2 hr2 => ?_
    · obtain ⟨⟨oc, od, oda, osl⟩, ho, hc, nl, hd⟩ := hl
      simp only at hc hd
      subst hc; subst hd
      have ho' : (s.heap.push (setObj0 w)).get? l = some { cls := .type "list", dict := od, data := .seq its nl, slots := osl } := Heap.get?_push_of_some _ ho
      have hl' : (s.heap.push (setObj0 w)).IsList l its := ⟨_, ho', rfl, nl, rfl⟩
      have j1 := PySem.F.sub_list_set
      have j2 := PySem.F.sub_list_frozenset
      have j3 : (Value.type "list" == Value.type "dict") = false := by decide
      unfold Builtin.«set.__init__» noKeywords Builtin.Frozenset.updateFrom
      generalize hPI : pyIter = PI
      wp_walk
      subst hPI
      have lS : l < s.heap.objs.size := Heap.lt_size ho
      have z1 : (s.heap.push (setObj0 w)).objs.size = s.heap.objs.size + 1 := Heap.size_push ..
      have nI : l ≠ (s.heap.push (setObj0 w)).objs.size := by rw [z1]; exact Nat.ne_of_lt (Nat.lt_succ_of_lt lS)
      have nS : s.heap.objs.size ∉ [(s.heap.push (setObj0 w)).objs.size, l] := by
        rw [z1]
        intro m
        simp only [List.mem_cons, List.not_mem_nil, or_false] at m
        rcases m with m | m
        · exact absurd m (Nat.ne_of_lt (Nat.lt_succ_self _))
        · exact absurd m.symm (Nat.ne_of_lt lS)
      have h3 : A.in1.in1.in1.handled = none := by simp [hh]
      refine wpAny_pyIter_list hl' (wpAny_bind (wpAny_runValue ?_))
      refine txt_loop ((Walks.list h3 _ l nI its).toS) s.heap.objs.size nS xs sz (by omega) (fun i v hv => ?_) (its.size - 0) 0 _ (by omega) (Nat.zero_le _) ⟨⟨_, Heap.get?_push_size _ rfl, rfl, rfl⟩, hl'.push _⟩ ?_ ?_
      · have lt : i < xs.length := by rw [sz]; exact (Array.getElem?_eq_some_iff.mp hv).1
        obtain ⟨u, e⟩ := SS.strs_at vs i v (by rw [Array.getElem?_toList]; exact hv)
        refine ⟨xs[i], u, List.getElem?_eq_getElem lt, ?_⟩
        rw [e, List.getD_eq_getElem?_getD, List.getElem?_eq_getElem lt]
        rfl
      · exact txt_fresh (Heap.get?_push_of_some _ at0)
      · intro s' mv T
        obtain ⟨h', g2, d', tk', os'⟩ := s'
        have e1 : g2 = s.gens := mv.gens
        have e2 : d' = s.drawn := mv.drawn
        have e3 : os' = s.os := mv.os
        subst e1; subst e2; subst e3
        show wpAny _ _ _ _ _ _
        refine wpAny_pure ?_
        show wpAny _ _ (ret Value.none) _ _ _
        refine wpAny_pure ⟨rfl, h', tk', rfl, T, fun b o e => ?_⟩
        have lb : b < s.heap.objs.size := Heap.lt_size e
        refine mv.heap b o (fun m => ?_) (Heap.get?_push_of_some _ (Heap.get?_push_of_some _ e))
        rcases List.mem_cons.mp m with m | m
        · exact absurd m (Nat.ne_of_lt lb)
        · rw [List.mem_singleton, z1] at m
          exact absurd m (Nat.ne_of_lt (Nat.lt_succ_of_lt lb))
    · rcases r2 with e | fl2
      · exact hr2
      cases fl2 with
      | brk => exact hr2.elim
      | cont => exact hr2.elim
      | next => exact hr2.elim
      | ret v =>
        obtain ⟨rfl, h', tk, rfl, T, keep⟩ := hr2
        repeat (any_goals (first | assumption | wp_step))
        exact q _ _ T keep
/-- sorted of such a set -/
theorem txt_sorted {a : Addr} {L : List Str} {Q : Value → Shared → Prop} (R : TxtSet w s.heap a L) (hh : A.handled = none) (few : L.length < 64)
    (q : ∀ s' p (out : Array Value) (c : Nat) (ys : List Str), (∀ b o, s.heap.get? b = some o → s'.heap.get? b = some o) → s'.gens = s.gens → s'.os = s.os → s.heap.objs.size ≤ p →
      s'.heap.get? p = some (seqObj "list" out c) → StrsAre out.toList ys → ys.Perm L → sortedS ys = true → Q (.ref p) s') :
    wpAny (model P w) A (call (.builtin "sorted") [.ref a]) Q E s := by
  obtain ⟨⟨o, es, ep, t, ho, hx, hd, g, p, f, r, l⟩, nd, _⟩ := R
  have b0 : es.size < scanBound := by rw [len_es p]; exact Nat.lt_trans few (by decide)
  refine Calls.call_function_entry PyProof.Rows.kind_sorted PyProof.Rows.plain_sorted PyProof.Rows.entry_sorted (PyProof.Rows.args_sorted1 _) ?_
  unfold Builtin.«sorted»
  refine wpAny_bind (m := checkCount "sorted" 1 1 _) (wpAny_pure (wpAny_bind (collect_set (A := A.in1) hh ⟨o, ho, hx.1, hd⟩ f b0 r l fun s1 vs k1 hz g1 o1 pm => ?_)))
  have lv : vs.length = L.length := by rw [pm.length_eq, List.length_map, Array.length_toList]; exact len_es p
  obtain ⟨ts, hts, pt⟩ : ∃ ts : List Str, StrsAre vs ts ∧ ts.Perm L := by
    have all : ∀ us : List Value, (∀ v ∈ us, ∃ x u, v = .str x u) → StrsAre us (us.map fun v => txt (0, v)) := by
      intro us
      induction us with
      | nil => exact fun _ => .nil
      | cons v us ih =>
        intro h
        obtain ⟨x, u, rfl⟩ := h v (List.mem_cons_self ..)
        exact .cons x u (ih fun y m => h y (List.mem_cons_of_mem _ m))
    refine ⟨_, all vs fun v m => ?_, ((pm.map fun v => txt (0, v)).trans ?_).trans p⟩
    · obtain ⟨e, me, q⟩ := List.mem_map.mp (pm.mem_iff.mp m)
      obtain ⟨x, u, h1, _⟩ := g e me
      exact ⟨x, u, by rw [← q]; exact h1⟩
    · rw [List.map_map]
      exact List.Perm.refl _
  refine wpAny_bind (wpAny_newList ?_ (by rw [lv, sizeLine_eq]; omega))
  have hoL : (s1.heap.push (seqObj "list" vs.toArray 0)).get? s1.heap.objs.size = some (seqObj "list" vs.toArray 0) := Heap.get?_push_size _ rfl
  refine wpAny_bind (wpAny_holding (wpAny_call_entry PyProof.Rows.slot_list_sort ⟨_, hoL, rfl⟩ PyProof.Rows.entry_list_sort
    (list_sort_treeK strKind_oneLt hoL hts.keysOf (fun v1 v2 rest e => keyKind_strs (by rw [← e]; exact hts)) (by rw [lv]; exact few) fun st hp hs => ⟨_, rfl, ?_⟩) (PyProof.Rows.args_list_sort _)))
  obtain ⟨ys, y1, y2, y3⟩ := sorted_out_str hts hp hs
  obtain ⟨c, hc⟩ := PyProof.Rows.sortedHeap_at (vs := vs) (out := (arrOf st).map (·.2)) hoL
  refine wpAny_pure ⟨_, rfl, q _ s1.heap.objs.size ((arrOf st).map (·.2)) c ys (fun b u e => ?_) g1 o1 hz hc y1 (y2.trans pt) y3⟩
  have e' := k1 b u e
  have lt := Heap.lt_size e'
  show (PyProof.Rows.sortedHeap (s1.heap.push (seqObj "list" vs.toArray 0)) s1.heap.objs.size vs ((arrOf st).map (·.2))).get? b = some u
  rw [PyProof.Rows.sortedHeap_old (Nat.ne_of_lt lt) (by rw [size_push']; exact Nat.lt_succ_of_lt lt)]
  exact Heap.get?_push_of_some _ e'
end
end Kn


/-! Kn: set(a list of keys), and sorted of a set of keys. -/
namespace Kn
open PySem PySem.Spec PyProof.Rows L2
/-- what a set has got of these items -/
structure Of (ms M : List Mem) : Prop where
  sub : ∀ m ∈ M, m ∈ ms
  all : ∀ m ∈ ms, m.2 ∈ M.map (·.2)
  len : M.length ≤ ms.length
theorem Of.nil : Of [] [] := ⟨fun _ h => (by cases h), fun _ h => (by cases h), Nat.le_refl _⟩
theorem Of.old {ms M : List Mem} {x : Mem} (g : Of ms M) (h : x.2 ∈ M.map (·.2)) : Of (ms ++ [x]) M := by
  refine ⟨fun m hm => List.mem_append_left _ (g.sub m hm), fun m hm => ?_, by rw [List.length_append]; have := g.len; omega⟩
  rcases List.mem_append.mp hm with z | z
  · exact g.all m z
  · rw [List.mem_singleton.mp z]
    exact h
theorem Of.new {ms M M' : List Mem} {x : Mem} (g : Of ms M) (p : M'.Perm (x :: M)) : Of (ms ++ [x]) M' := by
  refine ⟨fun m hm => ?_, fun m hm => ?_, ?_⟩
  · rcases List.mem_cons.mp (p.mem_iff.mp hm) with z | z
    · rw [z]
      exact List.mem_append_right _ (List.mem_singleton.mpr rfl)
    · exact List.mem_append_left _ (g.sub m z)
  · rw [(p.map (·.2)).mem_iff, List.map_cons]
    rcases List.mem_append.mp hm with z | z
    · exact List.mem_cons_of_mem _ (g.all m z)
    · rw [List.mem_singleton.mp z]
      exact List.mem_cons_self
  · rw [p.length_eq, List.length_append]
    have := g.len
    show _ + 1 ≤ _ + 1
    omega
section
variable {P : Program} {w : World} {A : Around} {E : Value → Shared → Prop} {s : Shared}
/-- set.update's loop over anything that yields keys -/
theorem key_loop {I : Addr} {fp wr : List Addr} {G : Array GenState → Array GenState → Prop} {n : Nat} {Pv : Nat → Value → Prop} {St : Nat → Shared → Prop} {R : Result → Shared → Prop} (W : WalksS P w A.in1 I fp wr G n Pv St) (a : Addr) (out : a ∉ fp)
    (ms : List Mem) (hn : ms.length = n) (room : n + 1 < 64) (val : ∀ i v, Pv i v → ∃ m, ms[i]? = some m ∧ v = .ref m.1) (h0 : Heap) (keys : ∀ m ∈ ms, KeyAt h0 m) (fa : h0.get? a = none) (fw : ∀ b ∈ wr, h0.get? b = none) (hu : A.in1.units + 8 < cLine) :
    ∀ (k i : Nat) (s : Shared), n - i = k → i ≤ n → St i s → (∀ b o, h0.get? b = some o → s.heap.get? b = some o) → (∃ M, KSet w s.heap a M ∧ Of (ms.take i) M) →
      (∀ s' M, Moved (a :: wr) G s s' → KSet w s'.heap a M → Of ms M → R (.ok (.ret .none)) s') →
      codeAny (model P w) A (.builtin "set.update.loop" ⟨[.ref a, .ref I], []⟩) R s := by
  have ow : a ∉ wr := fun z => out (W.sub _ z)
  have wider : ∀ b ∈ wr, b ∈ a :: wr := fun b m => List.mem_cons_of_mem _ m
  have keepM : ∀ {s s' : Shared}, Moved wr G s s' → (∀ b o, h0.get? b = some o → s.heap.get? b = some o) → ∀ b o, h0.get? b = some o → s'.heap.get? b = some o := fun mv kp b o e =>
    mv.heap b o (fun z => by rw [fw b z] at e; cases e) (kp b o e)
  intro k
  induction k with
  | zero =>
    intro i s hk hi st kp ⟨M, T, g⟩ fin
    obtain rfl : i = n := by omega
    refine codeAny_builtin PyProof.Rows.F.entry_set_update_loop ?_
    rw [Around.under_plainId PyProof.Rows.F.plain_set_update_loop _]
    show wpAny (model P w) A.in1 (pyNext (.ref I) >>= _) _ _ s
    refine wpAny_bind (W.done s _ _ st fun s' mv => ?_)
    show wpAny (model P w) A.in1 (ret Value.none) _ _ s'
    rw [List.take_of_length_le (by omega)] at g
    exact wpAny_pure (fin s' M (mv.mono wider) (T.move fun o e => mv.heap a o ow e) g)
  | succ k ih =>
    intro i s hk hi st kp ⟨M, T, g⟩ fin
    have lt : i < n := by omega
    refine codeAny_builtin PyProof.Rows.F.entry_set_update_loop ?_
    rw [Around.under_plainId PyProof.Rows.F.plain_set_update_loop _]
    show wpAny (model P w) A.in1 (pyNext (.ref I) >>= _) _ _ s
    refine wpAny_bind (W.item i s _ _ lt st fun v s' hv st' mv => ?_)
    obtain ⟨m, hm, rfl⟩ := val i v hv
    have kp' := keepM mv kp
    have T' := T.move fun o e => mv.heap a o ow e
    have hx : KeyAt s'.heap m := (keys m (List.mem_of_getElem? hm)).move kp'
    have ks : ∀ y ∈ M, KeyAt s'.heap y := fun y hy => (keys y (List.mem_of_mem_take (g.sub y hy))).move kp'
    show wpAny (model P w) A.in1 (holding [Value.ref m.1] (setAdd a (.ref m.1)) >>= _) _ _ s'
    refine wpAny_bind (wpAny_holding ?_)
    unfold setAdd
    have lg := g.len
    have lt2 : (ms.take i).length ≤ i := by rw [List.length_take]; omega
    refine wpAny_holding (wpAny_bind ((nestedKind P w).pyHash (k := m.2) (show A.in1.units + 8 < cLine from hu) hx ?_))
    refine set_add (s := { s' with toks := s'.toks + (nestedKind P w).draws m.2 }) T' ks hx hu (by omega) fun b h' M' same T2 c1 c2 _ => ?_
    have tk : ms.take i ++ [m] = ms.take (i + 1) := by rw [List.take_add_one, hm]; rfl
    have g' : Of (ms.take (i + 1)) M' := by
      rw [← tk]
      rcases Classical.em (m.2 ∈ M.map (·.2)) with c | c
      · rw [c1 c]
        exact g.old c
      · exact g.new (c2 c)
    have stay : ∀ b o, b ≠ a → s'.heap.get? b = some o → h'.get? b = some o := fun b o z e => (same.2 b z).trans e
    have kp2 : ∀ b o, h0.get? b = some o → h'.get? b = some o := fun b o e => stay b o (fun z => by rw [z, fa] at e; cases e) (kp' b o e)
    refine wpAny_pure ⟨plainId_quiet PyProof.Rows.F.plain_set_update_loop _, ih (i + 1) _ (by omega) lt (W.frame _ s' _ _ st' (Nat.le_add_right _ _) fun b m o e => stay b o (fun z => out (z ▸ m)) e) kp2 ⟨M', T2, g'⟩ fun s'' M2 mv2 T3 g3 => ?_⟩
    exact fin s'' M2 (Moved.trans W.gtrans ((mv.mono wider).then_heap (Nat.le_add_right _ _) fun b o m e => stay b o (fun z => m (z ▸ List.mem_cons_self ..)) e) mv2) T3 g3
theorem key_fresh {h : Heap} {a : Addr} (ho : h.get? a = some (setObj0 w)) : KSet w h a [] := by
  refine ⟨_, _, _, _, ho, ⟨rfl, rfl, rfl⟩, rfl, rfl, ⟨List.Pairwise.nil, rfl, rfl, .inl rfl, fun x hx => (by cases hx), fun i h j hi => (by simp at hi)⟩, ?_, by show 0 * 5 < 7 * 3; decide, List.nodup_nil, by show 0 < 64; decide⟩
  show _ ∨ (!w.params.followText "set-order") = true
  cases w.params.followText "set-order"
  · exact .inr rfl
  · exact .inl rfl
/-- set(xs) of a list of keys -/
theorem key_set {l : Addr} {its : Array Value} (ms : List Mem) {Q : Value → Shared → Prop} (hh : A.handled = none) (hl : s.heap.IsList l its) (vs : its.toList = ms.map fun m => Value.ref m.1) (keys : ∀ m ∈ ms, KeyAt s.heap m) (room : ms.length + 1 < 64) (hu : A.units + 32 < cLine)
    (q : ∀ (h' : Heap) (tk : Nat) (M : List Mem), KSet w h' s.heap.objs.size M → Of ms M → (∀ b o, s.heap.get? b = some o → h'.get? b = some o) → Q (.ref s.heap.objs.size) { s with heap := h', toks := tk }) :
    wpAny (model P w) A (call (.type "set") [.ref l]) Q E s := by
  have sz : ms.length = its.size := by rw [← Array.length_toList, vs, List.length_map]
  obtain ⟨cl, tl, hmro⟩ := PySem.F.called_set.mro
  have k1 := PySem.F.called_set.made
  have k2 := PySem.F.called_set.sub
  have k3 := PySem.F.called_set.notType
  have k4 := PySem.F.called_set.canCreate
  have k5 := PySem.F.typeCall_set_1 (.ref l)
  refine wpAny_call (codeAny_of_tree ?_)
  show wpAny _ _ (callAny (.type "set") _) _ _ _
  refine wpAny_pure ⟨Code.quiet_builtin _ (by decide +kernel), codeAny_builtin PySem.F.entry_type_call ?_⟩
  rw [Around.under_plain (weight_type_call_type "set" [.ref l] []) rfl]
  repeat (any_goals (first | assumption | wp_step))
  refine codeAny_mono (code_set_led1 (.ref l) (E := E) (Q₁ := fun v s1 => v = .ref s.heap.objs.size ∧ s1 = { s with heap := s.heap.push (setObj0 w) }) ⟨rfl, rfl⟩) fun r s1 hr => ?_
  rcases r with e | fl
  · exact hr
  cases fl with
  | brk => exact hr.elim
  | cont => exact hr.elim
  | next => exact hr.elim
  | ret v =>
    obtain ⟨rfl, rfl⟩ := hr
    have at0 : (s.heap.push (setObj0 w)).get? s.heap.objs.size = some (setObj0 w) := Heap.get?_push_size _ rfl
    have ty0 : Shared.TypeIs { s with heap := s.heap.push (setObj0 w) } (.ref s.heap.objs.size) "set" := ⟨_, at0, rfl⟩
    have k6 := PySem.F.called_set.init.lookup
    have k7 := PySem.F.called_set.init.bind (.ref s.heap.objs.size)
    repeat (any_goals (first | assumption | wp_step))
    refine codeAny_mono (codeAny_call_builtin (R := wants (fun r s2 => r = .none ∧ ∃ h' tk M, s2 = { s with heap := h', toks := tk } ∧ KSet w h' s.heap.objs.size M ∧ Of ms M ∧ ∀ b o, s.heap.get? b = some o → h'.get? b = some o) E)
      PySem.F.called_set.init.plain PySem.F.entry_set_init (check_set_init_1 ty0 ?_)) fun r2 s2 hr2 => ?_
    · obtain ⟨⟨oc, od, oda, osl⟩, ho, hc, nl, hd⟩ := hl
      simp only at hc hd
      subst hc; subst hd
      have ho' : (s.heap.push (setObj0 w)).get? l = some { cls := .type "list", dict := od, data := .seq its nl, slots := osl } := Heap.get?_push_of_some _ ho
      have hl' : (s.heap.push (setObj0 w)).IsList l its := ⟨_, ho', rfl, nl, rfl⟩
      have j1 := PySem.F.sub_list_set
      have j2 := PySem.F.sub_list_frozenset
      have j3 : (Value.type "list" == Value.type "dict") = false := by decide
      unfold Builtin.«set.__init__» noKeywords Builtin.Frozenset.updateFrom
      generalize hPI : pyIter = PI
      wp_walk
      subst hPI
      have lS : l < s.heap.objs.size := Heap.lt_size ho
      have z1 : (s.heap.push (setObj0 w)).objs.size = s.heap.objs.size + 1 := Heap.size_push ..
      have nI : l ≠ (s.heap.push (setObj0 w)).objs.size := by rw [z1]; exact Nat.ne_of_lt (Nat.lt_succ_of_lt lS)
      have nS : s.heap.objs.size ∉ [(s.heap.push (setObj0 w)).objs.size, l] := by
        rw [z1]
        intro m
        simp only [List.mem_cons, List.not_mem_nil, or_false] at m
        rcases m with m | m
        · exact absurd m (Nat.ne_of_lt (Nat.lt_succ_self _))
        · exact absurd m.symm (Nat.ne_of_lt lS)
      have h3 : A.in1.in1.in1.handled = none := by simp [hh]
      refine wpAny_pyIter_list hl' (wpAny_bind (wpAny_runValue ?_))
      refine key_loop ((Walks.list h3 _ l nI its).toS) s.heap.objs.size nS ms sz (by omega) (fun i v hv => ?_) s.heap keys (Heap.get?_none_of_le (Nat.le_refl _)) (fun b hb => ?_) ?_ (its.size - 0) 0 _ (by omega) (Nat.zero_le _) ⟨⟨_, Heap.get?_push_size _ rfl, rfl, rfl⟩, hl'.push _⟩ (fun b o e => Heap.get?_push_of_some _ (Heap.get?_push_of_some _ e)) ⟨[], ?_, Of.nil⟩ ?_
      · have lt : i < ms.length := by rw [sz]; exact (Array.getElem?_eq_some_iff.mp hv).1
        refine ⟨ms[i], List.getElem?_eq_getElem lt, ?_⟩
        have z : its.toList[i]? = some v := by rw [Array.getElem?_toList]; exact hv
        rw [vs, List.getElem?_map, List.getElem?_eq_getElem lt] at z
        exact (Option.some.inj z).symm
      · rw [List.mem_singleton.mp hb, z1]
        exact Heap.get?_none_of_le (Nat.le_succ _)
      · simp only [Around.in1_units]
        omega
      · exact key_fresh (Heap.get?_push_of_some _ at0)
      · intro s' M mv T g
        obtain ⟨h', g2, d', tk', os'⟩ := s'
        have e1 : g2 = s.gens := mv.gens
        have e2 : d' = s.drawn := mv.drawn
        have e3 : os' = s.os := mv.os
        subst e1; subst e2; subst e3
        show wpAny _ _ _ _ _ _
        refine wpAny_pure ?_
        show wpAny _ _ (ret Value.none) _ _ _
        refine wpAny_pure ⟨rfl, h', tk', M, rfl, T, g, fun b o e => ?_⟩
        have lb : b < s.heap.objs.size := Heap.lt_size e
        refine mv.heap b o (fun m => ?_) (Heap.get?_push_of_some _ (Heap.get?_push_of_some _ e))
        rcases List.mem_cons.mp m with m | m
        · exact absurd m (Nat.ne_of_lt lb)
        · rw [List.mem_singleton, z1] at m
          exact absurd m (Nat.ne_of_lt (Nat.lt_succ_of_lt lb))
    · rcases r2 with e | fl2
      · exact hr2
      cases fl2 with
      | brk => exact hr2.elim
      | cont => exact hr2.elim
      | next => exact hr2.elim
      | ret v =>
        obtain ⟨rfl, h', tk, M, rfl, T, g, keep⟩ := hr2
        repeat (any_goals (first | assumption | wp_step))
        exact q _ _ M T g keep
end
end Kn


/-! Kn: isinstance of data. -/
namespace Kn
open PySem PySem.Spec PyProof.Rows L2
def tyName : PyData → String
  | .none => "NoneType"
  | .bool _ => "bool"
  | .int _ => "int"
  | .str _ => "str"
  | .list _ => "list"
  | .tuple _ => "tuple"
  | .dict _ => "dict"
def intB : PyData → Bool
  | .int _ => true
  | _ => false
def boolB : PyData → Bool
  | .bool _ => true
  | _ => false
def strB : PyData → Bool
  | .str _ => true
  | _ => false
def posB : PyData → Bool
  | .int n => decide (1 ≤ n)
  | _ => false
theorem ty_of {K : PySem.W.Frag} {H : Hp} {v : V} {d : PyData} (h : Dp K H v d) : TyX K H v (.type (tyName d)) := by
  cases h with
  | non => exact .base .non
  | bl b => exact .base (.bl b)
  | int i => exact .base (.int i)
  | str x => exact .base (.str x)
  | lst h k =>
    rcases h with (h | ⟨o, h⟩) | ⟨o, its, n, h, c, _⟩
    · exact .base (.lst h)
    · exact .base (.frz h)
    · exact .kList h c
  | tup h k =>
    rcases h with (h | ⟨o, h⟩) | ⟨o, its, n, h, c, _⟩
    · exact .base (.tup h)
    · exact .fTuple h
    · exact .kTuple h c
theorem no_dict {K : PySem.W.Frag} {H : Hp} {v : V} {es : List (PyData × PyData)} (h : Dp K H v (.dict es)) : False := by cases h
section
variable {K : PySem.W.Frag} {d : PyData}
theorem kit_int : PySem.W.kitOne K (.type (tyName d)) (.type "int") = some (intB d || boolB d) := by
  cases d with
  | none => exact kit_ty (K := K) (a := "NoneType") (b := "int") (r := false) (by decide +kernel)
  | bool _ => exact kit_ty (K := K) (a := "bool") (b := "int") (r := true) (by decide +kernel)
  | int _ => exact kit_ty (K := K) (a := "int") (b := "int") (r := true) (by decide +kernel)
  | str _ => exact kit_ty (K := K) (a := "str") (b := "int") (r := false) (by decide +kernel)
  | list _ => exact kit_ty (K := K) (a := "list") (b := "int") (r := false) (by decide +kernel)
  | tuple _ => exact kit_ty (K := K) (a := "tuple") (b := "int") (r := false) (by decide +kernel)
  | dict _ => exact kit_ty (K := K) (a := "dict") (b := "int") (r := false) (by decide +kernel)
theorem kit_bool : PySem.W.kitOne K (.type (tyName d)) (.type "bool") = some (boolB d) := by
  cases d with
  | none => exact kit_ty (K := K) (a := "NoneType") (b := "bool") (r := false) (by decide +kernel)
  | bool _ => exact kit_ty (K := K) (a := "bool") (b := "bool") (r := true) (by decide +kernel)
  | int _ => exact kit_ty (K := K) (a := "int") (b := "bool") (r := false) (by decide +kernel)
  | str _ => exact kit_ty (K := K) (a := "str") (b := "bool") (r := false) (by decide +kernel)
  | list _ => exact kit_ty (K := K) (a := "list") (b := "bool") (r := false) (by decide +kernel)
  | tuple _ => exact kit_ty (K := K) (a := "tuple") (b := "bool") (r := false) (by decide +kernel)
  | dict _ => exact kit_ty (K := K) (a := "dict") (b := "bool") (r := false) (by decide +kernel)
theorem kit_str : PySem.W.kitOne K (.type (tyName d)) (.type "str") = some (strB d) := by
  cases d with
  | none => exact kit_ty (K := K) (a := "NoneType") (b := "str") (r := false) (by decide +kernel)
  | bool _ => exact kit_ty (K := K) (a := "bool") (b := "str") (r := false) (by decide +kernel)
  | int _ => exact kit_ty (K := K) (a := "int") (b := "str") (r := false) (by decide +kernel)
  | str _ => exact kit_ty (K := K) (a := "str") (b := "str") (r := true) (by decide +kernel)
  | list _ => exact kit_ty (K := K) (a := "list") (b := "str") (r := false) (by decide +kernel)
  | tuple _ => exact kit_ty (K := K) (a := "tuple") (b := "str") (r := false) (by decide +kernel)
  | dict _ => exact kit_ty (K := K) (a := "dict") (b := "str") (r := false) (by decide +kernel)
end
end Kn


/-! Kn: written data, as a whole. -/
namespace Kn
open PySem PySem.Spec PyProof.Rows L2
theorem sameDp {K : PySem.W.Frag} {H H' : Hp} (s : Same H H') {a : Addr} {xs : List V} (h : SqT K H a xs) : SqT K H' a xs := by
  rcases h with (h | ⟨o, h⟩) | h
  · exact .inl (.inl (s _ _ h))
  · exact .inl (.inr ⟨o, s _ _ h⟩)
  · exact .inr h
mutual
theorem dKeep {K : PySem.W.Frag} {H H' : Hp} (s : Same H H') : ∀ {v : V} {d : PyData}, Dp K H v d → Dp K H' v d
  | _, _, .non => .non
  | _, _, .bl b => .bl b
  | _, _, .int i => .int i
  | _, _, .str x => .str x
  | _, _, .lst h k => .lst (s.seq h) (dsKeep s k)
  | _, _, .tup h k => .tup (sameDp s h) (dsKeep s k)
theorem dsKeep {K : PySem.W.Frag} {H H' : Hp} (s : Same H H') : ∀ {vs : List V} {ds : List PyData}, DpAll K H vs ds → DpAll K H' vs ds
  | _, _, .nil => .nil
  | _, _, .cons a b => .cons (dKeep s a) (dsKeep s b)
end
theorem dsLen {K : PySem.W.Frag} {H : Hp} : ∀ {xs : List V} {ds : List PyData}, DpAll K H xs ds → xs.length = ds.length
  | _, _, .nil => rfl
  | _, _, .cons _ b => congrArg Nat.succ (dsLen b)
theorem dsApp {K : PySem.W.Frag} {H : Hp} : ∀ {xs ys : List V} {ds es : List PyData}, DpAll K H xs ds → DpAll K H ys es → DpAll K H (xs ++ ys) (ds ++ es)
  | _, _, _, _, .nil, h => h
  | _, _, _, _, .cons a b, h => .cons a (dsApp b h)
theorem dsAt {K : PySem.W.Frag} {H : Hp} : ∀ {xs : List V} {ds : List PyData}, DpAll K H xs ds → ∀ (i : Nat) (x : V), xs[i]? = some x → ∃ d, ds[i]? = some d ∧ Dp K H x d
  | _, _, .nil, i, x, h => by simp at h
  | _, _, .cons (d := d) a b, 0, x, h => by
    simp at h
    subst h
    exact ⟨d, rfl, a⟩
  | _, _, .cons a b, i + 1, x, h => dsAt b i x (by simpa using h)
theorem dsDrop {K : PySem.W.Frag} {H : Hp} : ∀ (n : Nat) {xs : List V} {ds : List PyData}, DpAll K H xs ds → DpAll K H (xs.drop n) (ds.drop n)
  | 0, _, _, h => h
  | n + 1, _, _, .nil => .nil
  | n + 1, _, _, .cons _ b => dsDrop n b
theorem dsTake {K : PySem.W.Frag} {H : Hp} : ∀ (n : Nat) {xs : List V} {ds : List PyData}, DpAll K H xs ds → DpAll K H (xs.take n) (ds.take n)
  | 0, _, _, _ => .nil
  | n + 1, _, _, .nil => .nil
  | n + 1, _, _, .cons a b => .cons a (dsTake n b)
theorem dsRev {K : PySem.W.Frag} {H : Hp} : ∀ {xs : List V} {ds : List PyData}, DpAll K H xs ds → DpAll K H xs.reverse ds.reverse
  | _, _, .nil => .nil
  | _, _, .cons a b => by
    rw [List.reverse_cons, List.reverse_cons]
    exact dsApp (dsRev b) (.cons a .nil)
/-- an expression that makes this data, and changes nothing -/
def DE (K : PySem.W.Frag) (t : TE) (d : PyData) : Prop := ∀ (σ : L2.St) (H : Hp) (Q : VK), (∀ (v : V) (H' : Hp), Same H H' → Dp K H' v d → Q v H') → t σ H Q
def DA (K : PySem.W.Frag) (t : TA) (ds : List PyData) : Prop := ∀ (σ : L2.St) (H : Hp) (Q : List V → Hp → Prop), (∀ (vs : List V) (H' : Hp), Same H H' → DpAll K H' vs ds → Q vs H') → t σ H Q
/-- a new list of this data -/
def DL (K : PySem.W.Frag) (t : TE) (ds : List PyData) : Prop := ∀ (σ : L2.St) (H : Hp) (Q : VK), (∀ (l : Addr) (vs : List V) (H' : Hp), Same H H' → H l = none → H' l = some (.lst vs) → DpAll K H' vs ds → Q (.ref l) H') → t σ H Q
section
variable {K : PySem.W.Frag} {t u : TE} {ta : TA} {d : PyData} {ds es : List PyData}
theorem de_non : DE K (tC .non) .none := fun _ H _ q => q _ H (Same.refl H) .non
theorem de_bl {b : Bool} : DE K (tC (.bl b)) (.bool b) := fun _ H _ q => q _ H (Same.refl H) (.bl b)
theorem de_int {i : Int} : DE K (tC (.int i)) (.int i) := fun _ H _ q => q _ H (Same.refl H) (.int i)
theorem de_str {x : Str} : DE K (tC (.str x)) (.str x) := fun _ H _ q => q _ H (Same.refl H) (.str x)
theorem de_neg {i : Int} : DE K (tUn (rU fun i => .int (-i)) (tC (.int i))) (.int (-i)) := fun _ H _ q => ⟨i, rfl, q _ H (Same.refl H) (.int _)⟩
theorem de_big {i j : Int} (h : CPow i j := by exact ⟨by decide, by decide, by decide⟩) : DE K (tOp (rI CPow fun i j => .int (i ^ j.toNat)) (tC (.int i)) (tC (.int j))) (.int (i ^ j.toNat)) := fun _ H _ q => ⟨i, j, rfl, rfl, h, q _ H (Same.refl H) (.int _)⟩
theorem da_nil : DA K tNil [] := fun _ H _ q => q _ H (Same.refl H) .nil
theorem da_cons (h : DE K t d) (k : DA K ta ds) : DA K (tCons t ta) (d :: ds) := fun σ H Q q => h σ H _ fun v H1 s1 d1 => k σ H1 _ fun vs H2 s2 d2 => q _ H2 (s1.trans s2) (.cons (dKeep s2 d1) d2)
theorem de_tup (h : DA K ta ds) (few : ds.length ≤ 1000) : DE K (tTup ta) (.tuple ds) := fun σ H Q q => h σ H _ fun vs H1 s1 d1 => by
  refine ⟨by rw [dsLen d1]; exact Nat.le_trans few (by decide), fun p np => ?_⟩
  have s2 := same_new (o := .tup vs) np
  exact q _ _ (s1.trans s2) (.tup (.inl (.inl upd_same)) (dsKeep s2 d1))
theorem dl_lst (h : DA K ta ds) (few : ds.length ≤ 1000) : DL K (tLst ta) ds := fun σ H Q q => h σ H _ fun vs H1 s1 d1 => by
  refine ⟨by rw [dsLen d1]; exact Nat.le_trans few (by decide), fun p np => ?_⟩
  have s2 := same_new (o := .lst vs) np
  exact q p vs _ (s1.trans s2) (s1.free np) upd_same (dsKeep s2 d1)
theorem de_lst (h : DA K ta ds) (few : ds.length ≤ 1000) : DE K (tLst ta) (.list ds) := fun σ H Q q => dl_lst h few σ H Q fun l vs H' s _ e d => q _ H' s (.lst (.inl (.inl e)) d)
theorem dl_cat (h : DL K t ds) (k : DL K u es) (few : ds.length + es.length ≤ 1000) : DL K (tOp rCat t u) (ds ++ es) := fun σ H Q q => h σ H _ fun l vs H1 s1 n1 e1 d1 => k σ H1 _ fun r ws H2 s2 n2 e2 d2 => by
  refine ⟨l, r, vs, ws, rfl, rfl, s2 _ _ e1, e2, by rw [dsLen d1, dsLen d2]; exact Nat.le_trans few (by decide), fun p np => ?_⟩
  have s3 := same_new (o := .lst (vs ++ ws)) np
  exact q p _ _ ((s1.trans s2).trans s3) ((s1.trans s2).free np) upd_same (dsKeep s3 (dsApp (dsKeep s2 d1) d2))
theorem dl_grow {l : Addr} {vs : List V} {H0 : Hp} {Q : VK} {σ : L2.St} (e : H0 l = some (.lst vs)) (d1 : DpAll K H0 vs ds) (ht : ∀ R : VK, R (.ref l) H0 → t σ H0 R) (k : DL K u es) (few : ds.length + es.length ≤ 1000)
    (q : ∀ (p : Addr) (ws : List V) (H' : Hp), Same H0 H' → H0 p = none → H' p = some (.lst ws) → DpAll K H' ws (ds ++ es) → Q (.ref p) H') : tOp rCat t u σ H0 Q := ht _ (k σ H0 _ fun r ws H2 s2 n2 e2 d2 => by
  refine ⟨l, r, vs, ws, rfl, rfl, s2 _ _ e, e2, by rw [dsLen d1, dsLen d2]; exact Nat.le_trans few (by decide), fun p np => ?_⟩
  have s3 := same_new (o := .lst (vs ++ ws)) np
  exact q p _ _ (s2.trans s3) (s2.free np) upd_same (dsKeep s3 (dsApp (dsKeep s2 d1) d2)))
end
/-! ### isinstance of a tuple -/
def tupB : PyData → Bool
  | .tuple _ => true
  | _ => false
theorem kit_tup {K : PySem.W.Frag} {d : PyData} : PySem.W.kitOne K (.type (tyName d)) (.type "tuple") = some (tupB d) := by
  cases d with
  | none => exact kit_ty (K := K) (a := "NoneType") (b := "tuple") (r := false) (by decide +kernel)
  | bool _ => exact kit_ty (K := K) (a := "bool") (b := "tuple") (r := false) (by decide +kernel)
  | int _ => exact kit_ty (K := K) (a := "int") (b := "tuple") (r := false) (by decide +kernel)
  | str _ => exact kit_ty (K := K) (a := "str") (b := "tuple") (r := false) (by decide +kernel)
  | list _ => exact kit_ty (K := K) (a := "list") (b := "tuple") (r := false) (by decide +kernel)
  | tuple _ => exact kit_ty (K := K) (a := "tuple") (b := "tuple") (r := true) (by decide +kernel)
  | dict _ => exact kit_ty (K := K) (a := "dict") (b := "tuple") (r := false) (by decide +kernel)
end Kn


/-! Kn: sorted of a list of data, set of a list of tuples of any depth, sorted of such a set. -/
namespace Kn
open PySem PySem.Spec PyProof.Rows L2
open PySem.W (dataLe dataLt keyToks keyToksAll alike alikeAll AllAlike Sortable EachIs sort_pairwise sortLe_total list_sort_data sorted_data)
/-! ### data as keys -/
mutual
def keyB : PyData → Bool
  | .none => true
  | .bool _ => true
  | .int _ => true
  | .str _ => true
  | .tuple ds => keysB ds
  | .list _ => false
  | .dict _ => false
def keysB : List PyData → Bool
  | [] => true
  | d :: r => keyB d && keysB r
end
mutual
def keyD : PyData → NestedKey
  | .none => .none
  | .bool b => .num (if b = true then 1 else 0)
  | .int i => .num i
  | .str x => .text x
  | .tuple ds => .tup (keyDs ds)
  | .list _ => .none
  | .dict _ => .none
def keyDs : List PyData → List NestedKey
  | [] => []
  | d :: r => keyD d :: keyDs r
end
mutual
theorem key_reads {h : Heap} : ∀ (d : PyData) (v : Value) (as : List Addr), keyB d = true → Reads h v d as → as = [] ∧ NestedIs h (keyD d) v
  | .none, _, _, _, r => by cases r; exact ⟨rfl, .none⟩
  | .bool b, _, _, _, r => by cases r; exact ⟨rfl, .bool rfl⟩
  | .int i, _, _, _, r => by cases r; exact ⟨rfl, .int _ _⟩
  | .str x, _, _, _, r => by cases r; exact ⟨rfl, .text _ _⟩
  | .tuple ds, _, _, k, r => by
    cases r with
    | tuple h1 h2 h3 h4 =>
      obtain ⟨e, z⟩ := keys_reads ds _ _ k h4
      exact ⟨e, .tup h1 h2 h3 z⟩
  | .list _, _, _, k, _ => by cases k
  | .dict _, _, _, k, _ => by cases k
theorem keys_reads {h : Heap} : ∀ (ds : List PyData) (vs : List Value) (as : List Addr), keysB ds = true → ReadsAll h vs ds as → as = [] ∧ NestedAll h (keyDs ds) vs
  | [], _, _, _, r => by cases r; exact ⟨rfl, .nil⟩
  | d :: ds, _, _, k, r => by
    cases r with
    | cons r1 r2 =>
      obtain ⟨k1, k2⟩ := Bool.and_eq_true_iff.mp (show (keyB d && keysB ds) = true from k)
      obtain ⟨e1, z1⟩ := key_reads d _ _ k1 r1
      obtain ⟨e2, z2⟩ := keys_reads ds _ _ k2 r2
      exact ⟨by rw [e1, e2]; rfl, .cons z1 z2⟩
end
mutual
theorem key_depth : ∀ d : PyData, keyB d = true → (keyD d).depth = d.depth
  | .none, _ => rfl
  | .bool _, _ => rfl
  | .int _, _ => rfl
  | .str _, _ => rfl
  | .tuple ds, h => by
    show NestedKey.depthAll (keyDs ds) + 1 = PyData.depthAll ds + 1
    rw [keys_depth ds h]
  | .list _, h => by cases h
  | .dict _, h => by cases h
theorem keys_depth : ∀ ds : List PyData, keysB ds = true → NestedKey.depthAll (keyDs ds) = PyData.depthAll ds
  | [], _ => rfl
  | d :: r, h => by
    obtain ⟨h1, h2⟩ := Bool.and_eq_true_iff.mp (show (keyB d && keysB r) = true from h)
    show max (keyD d).depth (NestedKey.depthAll (keyDs r)) = max d.depth (PyData.depthAll r)
    rw [key_depth d h1, keys_depth r h2]
end
/-! ### orders -/
abbrev Cell := Addr × PyData
abbrev leD {β : Type} (f : β → PyData) : β → β → Bool := dataLe false f
theorem sorted_le {β : Type} (f : β → PyData) (l : List β) : (l.mergeSort (leD f)).Pairwise fun a b => leD f a b = true := sort_pairwise (sortLe_total _ false _) l
theorem lift_perm {α β : Type} {f : α → β} : ∀ (vs : List β) (ps : List α), vs.Perm (ps.map f) → ∃ qs : List α, qs.Perm ps ∧ vs = qs.map f
  | [], ps, h => by
    have z := h.length_eq
    rw [List.length_map] at z
    exact ⟨[], by rw [List.eq_nil_of_length_eq_zero z.symm], rfl⟩
  | v :: vs, ps, h => by
    obtain ⟨p, hp, rfl⟩ := List.mem_map.mp (h.mem_iff.mp (List.mem_cons_self ..))
    obtain ⟨s, t, rfl⟩ := List.append_of_mem hp
    have pm : (s ++ p :: t).Perm (p :: (s ++ t)) := List.perm_middle
    have h2 : vs.Perm ((s ++ t).map f) := (List.perm_cons (f p)).mp (h.trans (pm.map f))
    obtain ⟨qs, q1, q2⟩ := lift_perm vs (s ++ t) h2
    exact ⟨p :: qs, (List.Perm.cons p q1).trans pm.symm, by rw [q2, List.map_cons]⟩
section
variable {P : Program} {w : World} {A : Around} {E : Value → Shared → Prop} {s : Shared}
theorem each_refs {ps : List Cell} {h : Heap} (r : ∀ p ∈ ps, Reads h (.ref p.1) p.2 []) : EachIs (fun v b => ∃ as, Reads h v b.2 as ∧ as = []) (ps.map fun p => Value.ref p.1) ps := by
  induction ps with
  | nil => exact .nil
  | cons p ps ih => exact .cons ⟨[], r p (List.mem_cons_self ..), rfl⟩ (ih fun q hq => r q (List.mem_cons_of_mem _ hq))
theorem each_id (ps : List Cell) : EachIs (fun (v : Value) (b : Cell) => v = .ref b.1) (ps.map fun p => Value.ref p.1) ps := by
  induction ps with
  | nil => exact .nil
  | cons p ps ih => exact .cons rfl ih
theorem refs_each {vs : List Value} {ps : List Cell} (h : EachIs (fun (v : Value) (b : Cell) => v = .ref b.1) vs ps) : vs = ps.map fun p => Value.ref p.1 := by
  induction h with
  | nil => rfl
  | cons e _ ih => rw [e, ih]; rfl
/-- sorted of a set of keys -/
theorem key_sorted {a : Addr} {ps : List Cell} {Q : Value → Shared → Prop} (R : KSet w s.heap a (ps.map fun p => (p.1, keyD p.2))) (hh : A.handled = none) (rd : ∀ p ∈ ps, Reads s.heap (.ref p.1) p.2 []) (al : AllAlike (ps.map (·.2))) (so : Sortable (ps.map (·.2))) (hu : ∀ p ∈ ps, A.units + 8 + p.2.depth < cLine)
    (q : ∀ s' l (c : Nat) (qs : List Cell), (∀ b o, s.heap.get? b = some o → s'.heap.get? b = some o) → s'.gens = s.gens → s'.os = s.os → s.heap.objs.size ≤ l →
      s'.heap.get? l = some (seqObj "list" (qs.map fun p => Value.ref p.1).toArray c) → qs.Perm ps → qs.Pairwise (fun x y => leD (fun p : Cell => p.2) x y = true) → Q (.ref l) s') :
    wpAny (model P w) A (call (.builtin "sorted") [.ref a]) Q E s := by
  obtain ⟨o, es, ep, t, ho, hx, hd, T⟩ := R.ex
  have few : ps.length < 64 := by have := T.few; rwa [List.length_map] at this
  have sz : es.size = ps.length := by rw [T.size, List.length_map]
  have b0 : es.size < scanBound := by rw [sz]; exact Nat.lt_trans few (by decide)
  refine Calls.call_function_entry PyProof.Rows.kind_sorted PyProof.Rows.plain_sorted PyProof.Rows.entry_sorted (PyProof.Rows.args_sorted1 _) ?_
  unfold Builtin.«sorted»
  refine wpAny_bind (m := checkCount "sorted" 1 1 _) (wpAny_pure (wpAny_bind (collect_set (A := A.in1) hh ⟨o, ho, hx.1, hd⟩ T.fits b0 T.ok.ris T.led fun s1 vs k1 hz g1 o1 pm => ?_)))
  have e1 : es.toList.map (·.2) = ps.map fun p => Value.ref p.1 := by
    rw [T.rows, List.map_map, List.map_map]
    rfl
  rw [e1] at pm
  obtain ⟨qs, pq, rfl⟩ := lift_perm _ _ pm
  have lq : qs.length = ps.length := pq.length_eq
  refine wpAny_bind (wpAny_newList ?_ (by rw [List.length_map, lq, sizeLine_eq]; omega))
  have hoL : (s1.heap.push (seqObj "list" (qs.map fun p => Value.ref p.1).toArray 0)).get? s1.heap.objs.size = some (seqObj "list" (qs.map fun p => Value.ref p.1).toArray 0) := Heap.get?_push_size _ rfl
  have al2 : AllAlike (qs.map (·.2)) := fun d hd' e he => by
    have p2 := pq.map (·.2)
    exact al d (p2.mem_iff.mp hd') e (p2.mem_iff.mp he)
  have so2 : Sortable (qs.map (·.2)) := by
    have p2 := pq.map (·.2)
    rcases so with z | z
    · exact .inl fun d hd' => z d (p2.mem_iff.mp hd')
    · exact .inr fun d hd' => z d (p2.mem_iff.mp hd')
  have rd2 : ∀ p ∈ qs, Reads (s1.heap.push (seqObj "list" (qs.map fun p => Value.ref p.1).toArray 0)) (.ref p.1) p.2 [] := fun p hp =>
    PyProof.Rows.Reads.keeps (fun b o e => Heap.get?_push_of_some _ (k1 b o e)) (rd p (pq.mem_iff.mp hp))
  refine wpAny_bind (wpAny_holding (list_sort_data (enc := fun p : Cell => p.2) (bs := qs) (R := fun v b => v = .ref b.1) hoL (each_id qs) ((each_refs rd2).mono fun v b ⟨as, r, e⟩ => ⟨as, r, by rw [e]; exact List.not_mem_nil⟩) al2 so2 (by rw [lq]; exact Nat.le_trans (Nat.le_of_lt few) (by decide))
    (fun p hp => by have := hu p (pq.mem_iff.mp hp); simp only [Around.in1_units]; omega) fun out lo eo => ?_))
  have eo := refs_each eo
  subst eo
  obtain ⟨c, hc⟩ := PyProof.Rows.sortedHeap_at (vs := qs.map fun p => Value.ref p.1) (out := ((qs.mergeSort (dataLe false fun p : Cell => p.2)).map fun p => Value.ref p.1).toArray) hoL
  refine wpAny_pure ⟨_, rfl, q _ s1.heap.objs.size c (qs.mergeSort (dataLe false fun p : Cell => p.2)) (fun b u e => ?_) g1 o1 hz hc ((List.mergeSort_perm _ _).trans pq) (sorted_le _ _)⟩
  have e' := k1 b u e
  have lt := Heap.lt_size e'
  show (PyProof.Rows.sortedHeap (s1.heap.push (seqObj "list" (qs.map fun p => Value.ref p.1).toArray 0)) s1.heap.objs.size (qs.map fun p => Value.ref p.1) _).get? b = some u
  rw [PyProof.Rows.sortedHeap_old (Nat.ne_of_lt lt) (by rw [size_push']; exact Nat.lt_succ_of_lt lt)]
  exact Heap.get?_push_of_some _ e'
end
end Kn


namespace Kn
open PySem PySem.Spec PyProof.Rows L2
/-- the tracked set of texts -/
def SetTx (w : World) (a : Addr) (L : List Str) : HO := .ext fun h => TxtSet w h a L
section
variable {X : Cx}
theorem setTx_new {w : World} {P : Program} {H : Hp} {h : Heap} {a : Addr} {L : List Str} (R : TxtSet w h a L) : ObjOk P w H h a (SetTx w a L) := by
  have ⟨⟨o, _, _, _, ho, _⟩, _, _⟩ := R
  exact ⟨R, ⟨o, ho⟩, fun h1 h2 p k => p.move k⟩
theorem setTx_get {pins : List (Addr × Obj)} {σ : L2.St} {H : Hp} {s : Shared} {a : Addr} {L : List Str} (I : Inv X pins σ H s) (ha : H a = some (SetTx X.w a L)) : TxtSet X.w s.heap a L := (I.hok a _ ha).1
/-- set(xs) of texts -/
def rSetTx (K : PySem.W.Frag) (w : World) : List V → Hp → VK → Prop := fun vs H Q => ∃ (l : Addr) (xs : List Str), vs = [.ref l] ∧ SqL K H l (xs.map V.str) ∧ xs.length < 1000 ∧ ∀ p, H p = none → Q (.ref p) (upd H p (SetTx w p (gathered xs)))
theorem cr_setTx (hc : X.calm = true) : CallR X (.type "set") (rSetTx X.K X.w) := by
  intro pins s σ H vs us Q I r h
  obtain ⟨l, xs, rfl, hl, few, q⟩ := h
  rw [Vals.ref1 r]
  obtain ⟨its, rv, pl, hz⟩ := I.list hl
  have room : xs.length + 1 < scanBound := Nat.lt_of_lt_of_le (Nat.succ_lt_succ few) (by decide)
  refine txt_set xs (I.ok.hd hc) pl.isList (by simpa using rv.strs) room fun h' tk T keep => ?_
  exact ⟨.ref _, upd H s.heap.objs.size (SetTx X.w s.heap.objs.size (gathered xs)), I.laid (t' := tk) keep (Nat.le_refl _) (setTx_new T), rfl, q _ (I.hok.fresh (Nat.le_refl _))⟩
/-- sorted of it -/
def rSortedTx (w : World) : List V → Hp → VK → Prop := fun vs H Q => ∃ (a : Addr) (L : List Str), vs = [.ref a] ∧ H a = some (SetTx w a L) ∧ L.length < 64 ∧ ∀ (ys : List Str) (p : Addr), ys.Perm L → sortedS ys = true → H p = none → Q (.ref p) (upd H p (.lst (ys.map V.str)))
theorem cr_sortedTx (hc : X.calm = true) : CallR X (.builtin "sorted") (rSortedTx X.w) := by
  intro pins s σ H vs us Q I r h
  obtain ⟨a, L, rfl, ha, few, q⟩ := h
  rw [Vals.ref1 r]
  refine txt_sorted (setTx_get I ha) (I.ok.hd hc) few fun s' p out c ys keep g o hp hg hi pm so => ?_
  have len : (ys.map V.str).length ≤ sizeLine := by rw [List.length_map, pm.length_eq]; exact Nat.le_trans (Nat.le_of_lt few) (by decide)
  have fresh : H p = none := I.hok.fresh hp
  have J : Inv X pins σ (upd H p (.lst (ys.map V.str))) { s with heap := s'.heap, gens := s'.gens, drawn := s'.drawn, toks := s'.toks } :=
    I.call (ch := []) (Un.laid keep hp fresh) (I.hok.laid keep hp ⟨len, out.toList, c, vals_of_strs hi, hg⟩) (by rw [g]; exact I.bare) (fun _ z => nomatch z)
  have e : s' = { s with heap := s'.heap, gens := s'.gens, drawn := s'.drawn, toks := s'.toks } := by
    rcases s' with ⟨a1, a2, a3, a4, a5⟩
    rcases s with ⟨b1, b2, b3, b4, b5⟩
    cases o
    rfl
  rw [e]
  exact ⟨.ref p, _, J, rfl, q ys p pm so fresh⟩
end
end Kn


/-! Kn: the calls of sorted and set, over the layer. -/
namespace Kn
open PySem PySem.Spec PyProof.Rows L2
open PySem.W (dataLe dataLt keyToks keyToksAll alike alikeAll AllAlike Sortable EachIs sort_pairwise sortLe_total list_sort_data sorted_data)
def SetK (w : World) (a : Addr) (M : List Mem) : HO := .ext fun h => KSet w h a M
abbrev memOf (p : Cell) : Mem := (p.1, keyD p.2)
theorem setK_new {w : World} {P : Program} {H : Hp} {h : Heap} {a : Addr} {M : List Mem} (R : KSet w h a M) : ObjOk P w H h a (SetK w a M) := by
  obtain ⟨o, _, _, _, ho, _⟩ := R.ex
  exact ⟨R, ⟨o, ho⟩, fun h1 h2 p k => p.move k⟩
section
variable {X : Cx}
theorem dp_key {pins : List (Addr × Obj)} {σ : L2.St} {H : Hp} {s : Shared} {p : Addr} {d : PyData} (I : Inv X pins σ H s) (h : Dp X.K H (.ref p) d) (k : keyB d = true) : Reads s.heap (.ref p) d [] ∧ NestedIs s.heap (keyD d) (.ref p) := by
  obtain ⟨as, r⟩ := Dp.reads I d _ _ h rfl
  obtain ⟨e, z⟩ := key_reads d _ _ k r
  subst e
  exact ⟨r, z⟩
theorem lift_sub {α β : Type} {f : α → β} {ps : List α} : ∀ (M : List β), (∀ m ∈ M, m ∈ ps.map f) → ∃ qs : List α, qs.map f = M ∧ ∀ q ∈ qs, q ∈ ps
  | [], _ => ⟨[], rfl, fun _ h => by cases h⟩
  | m :: M, h => by
    obtain ⟨p, hp, rfl⟩ := List.mem_map.mp (h m (List.mem_cons_self ..))
    obtain ⟨qs, e, q⟩ := lift_sub M fun x hx => h x (List.mem_cons_of_mem _ hx)
    refine ⟨p :: qs, by rw [List.map_cons, e], fun y hy => ?_⟩
    rcases List.mem_cons.mp hy with rfl | hy
    · exact hp
    · exact q y hy
/-- set(xs), xs a list of tuples of any depth -/
def rSetK (K : PySem.W.Frag) (w : World) : List V → Hp → VK → Prop := fun vs H Q => ∃ (l : Addr) (ps : List Cell), vs = [.ref l] ∧ SqL K H l (ps.map fun p => V.ref p.1) ∧ (∀ p ∈ ps, Dp K H (.ref p.1) p.2 ∧ keyB p.2 = true ∧ p.2.depth ≤ 8) ∧ ps.length + 1 < 64 ∧
  ∀ (a : Addr) (qs : List Cell), H a = none → (∀ q ∈ qs, q ∈ ps) → (∀ p ∈ ps, keyD p.2 ∈ qs.map fun q => keyD q.2) → (qs.map fun q => keyD q.2).Nodup → Q (.ref a) (upd H a (SetK w a (qs.map memOf)))
theorem refs_vals : ∀ {ps : List Cell} {us : List Value}, Vals (ps.map fun p => V.ref p.1) us → us = ps.map fun p => Value.ref p.1
  | [], _, .nil => rfl
  | p :: ps, _, .cons r t => by
    cases r
    rw [refs_vals t]
    rfl
theorem vals_refs : ∀ ps : List Cell, Vals (ps.map fun p => V.ref p.1) (ps.map fun p => Value.ref p.1)
  | [] => .nil
  | _ :: ps => .cons rfl (vals_refs ps)
theorem cr_setK (hc : X.calm = true) (hu : X.A.units + 64 < cLine) : CallR X (.type "set") (rSetK X.K X.w) := by
  intro pins s σ H vs us Q I r h
  obtain ⟨l, ps, rfl, hl, hp, few, q⟩ := h
  rw [Vals.ref1 r]
  obtain ⟨its, rv, pl, hz⟩ := I.list hl
  refine key_set (ps.map memOf) (I.ok.hd hc) pl.isList ?_ (fun m hm => ?_) (by rw [List.length_map]; exact few) (by omega) fun h' tk M T g keep => ?_
  · rw [List.map_map]
    have z := refs_vals rv
    show its = _
    rw [z]
    rfl
  · obtain ⟨p, hpm, rfl⟩ := List.mem_map.mp hm
    obtain ⟨d, k, dp⟩ := hp p hpm
    exact ⟨(dp_key I d k).2, by rw [key_depth _ k]; exact dp⟩
  · obtain ⟨qs, rfl, sub⟩ := lift_sub M g.sub
    obtain ⟨o, es, ep, t, ho, hx, hd, TT⟩ := T.ex
    have nd := TT.nd
    rw [List.map_map] at nd
    refine ⟨.ref _, upd H s.heap.objs.size (SetK X.w s.heap.objs.size (qs.map memOf)), I.laid (t' := tk) keep (Nat.le_refl _) (setK_new T), rfl, q _ qs (I.hok.fresh (Nat.le_refl _)) sub (fun p hpm => ?_) nd⟩
    have z := g.all (memOf p) (List.mem_map.mpr ⟨p, hpm, rfl⟩)
    rw [List.map_map] at z
    exact z
/-- sorted of such a set -/
def rSortedK (K : PySem.W.Frag) (w : World) : List V → Hp → VK → Prop := fun vs H Q => ∃ (a : Addr) (ps : List Cell), vs = [.ref a] ∧ H a = some (SetK w a (ps.map memOf)) ∧ (∀ p ∈ ps, Dp K H (.ref p.1) p.2 ∧ keyB p.2 = true ∧ p.2.depth ≤ 8) ∧ AllAlike (ps.map (·.2)) ∧ Sortable (ps.map (·.2)) ∧
  ∀ (l : Addr) (qs : List Cell), H l = none → qs.Perm ps → qs.Pairwise (fun x y => leD (fun p : Cell => p.2) x y = true) → Q (.ref l) (upd H l (.lst (qs.map fun q => V.ref q.1)))
theorem cr_sortedK (hc : X.calm = true) (hu : X.A.units + 64 < cLine) : CallR X (.builtin "sorted") (rSortedK X.K X.w) := by
  intro pins s σ H vs us Q I r h
  obtain ⟨a, ps, rfl, ha, hp, al, so, q⟩ := h
  rw [Vals.ref1 r]
  have T : KSet X.w s.heap a (ps.map memOf) := (I.hok a _ ha).1
  have few : ps.length < 64 := by
    obtain ⟨o, es, ep, t, ho, hx, hd, TT⟩ := T.ex
    have := TT.few
    rwa [List.length_map] at this
  refine key_sorted T (I.ok.hd hc) (fun p hpm => (dp_key I (hp p hpm).1 (hp p hpm).2.1).1) al so (fun p hpm => by have := (hp p hpm).2.2; omega) fun s' l c qs keep g o hl hg pm pw => ?_
  have len : (qs.map fun q => V.ref q.1).length ≤ sizeLine := by rw [List.length_map, pm.length_eq]; exact Nat.le_trans (Nat.le_of_lt few) (by decide)
  have fresh : H l = none := I.hok.fresh hl
  have J : Inv X pins σ (upd H l (.lst (qs.map fun q => V.ref q.1))) { s with heap := s'.heap, gens := s'.gens, drawn := s'.drawn, toks := s'.toks } :=
    I.call (ch := []) (Un.laid keep hl fresh) (I.hok.laid keep hl ⟨len, _, c, vals_refs qs, hg⟩) (by rw [g]; exact I.bare) (fun _ z => nomatch z)
  have e : s' = { s with heap := s'.heap, gens := s'.gens, drawn := s'.drawn, toks := s'.toks } := by
    rcases s' with ⟨a1, a2, a3, a4, a5⟩
    rcases s with ⟨b1, b2, b3, b4, b5⟩
    cases o
    rfl
  rw [e]
  exact ⟨.ref l, _, J, rfl, q l qs fresh pm pw⟩
/-- sorted of a list of data -/
abbrev VD := V × PyData
def rSortedD (K : PySem.W.Frag) : List V → Hp → VK → Prop := fun vs H Q => ∃ (a : Addr) (ps : List VD), vs = [.ref a] ∧ SqL K H a (ps.map (·.1)) ∧ (∀ p ∈ ps, Dp K H p.1 p.2 ∧ p.2.depth ≤ 8) ∧ AllAlike (ps.map (·.2)) ∧ Sortable (ps.map (·.2)) ∧
  ∀ (l : Addr) (qs : List VD), H l = none → qs.Perm ps → qs.Pairwise (fun x y => leD (fun p : VD => p.2) x y = true) → Q (.ref l) (upd H l (.lst (qs.map (·.1))))
theorem each_vals {s : Shared} : ∀ {ps : List VD} {us : List Value}, Vals (ps.map (·.1)) us → (∀ p ∈ ps, ∀ u, RelV p.1 u → ∃ as, Reads s.heap u p.2 as) → EachIs (fun v (b : VD) => RelV b.1 v) us ps ∧ EachIs (fun v (b : VD) => ∃ as, Reads s.heap v b.2 as) us ps
  | [], _, .nil, _ => ⟨.nil, .nil⟩
  | p :: ps, _, .cons r t, h => by
    obtain ⟨a, b⟩ := each_vals t fun q hq => h q (List.mem_cons_of_mem _ hq)
    exact ⟨.cons r a, .cons (h p (List.mem_cons_self ..) _ r) b⟩
theorem vals_each {us : List Value} {ps : List VD} (h : EachIs (fun v (b : VD) => RelV b.1 v) us ps) : Vals (ps.map (·.1)) us := by
  induction h with
  | nil => exact .nil
  | cons e _ ih => exact .cons e ih
theorem cr_sortedD (hu : X.A.units + 64 < cLine) : CallR X (.builtin "sorted") (rSortedD X.K) := by
  intro pins s σ H vs us Q I r h
  obtain ⟨a, ps, rfl, ha, hp, al, so, q⟩ := h
  rw [Vals.ref1 r]
  obtain ⟨its, rv, pl, hz⟩ := I.list ha
  obtain ⟨e1, e2⟩ := each_vals (s := s) rv fun p hpm u ru => Dp.reads I p.2 p.1 u (hp p hpm).1 ru
  refine sorted_data (enc := fun p : VD => p.2) (bs := ps) (R := fun v b => RelV b.1 v) pl.isList e1 e2 al so (by rwa [List.length_map] at hz) (fun p hpm => by have := (hp p hpm).2; show X.A.units + 2 + p.2.depth < cLine; omega) fun out lo eo => ?_
  have vo := vals_each eo
  generalize hq : ps.mergeSort (dataLe false fun p : VD => p.2) = qs at vo
  have pm : qs.Perm ps := hq ▸ List.mergeSort_perm _ _
  have pw : qs.Pairwise (fun x y => leD (fun p : VD => p.2) x y = true) := hq ▸ sorted_le _ _
  obtain ⟨c, hc⟩ := sortedAll_at s.heap its (List.toArray out)
  have len : (qs.map (·.1)).length ≤ sizeLine := by rw [List.length_map, pm.length_eq]; rwa [List.length_map] at hz
  have fresh : H (s.heap.objs.size + 1) = none := I.hok.fresh (Nat.le_succ _)
  have old : ∀ b o, s.heap.get? b = some o → (sortedAll s.heap its (List.toArray out)).get? b = some o := fun b o e => sortedAll_old e
  exact ⟨.ref _, upd H (s.heap.objs.size + 1) (.lst (qs.map (·.1))), I.laid (t' := s.toks) old (Nat.le_succ _) ⟨len, out, c, vo, hc⟩, rfl, q _ qs fresh pm pw⟩
end
end Kn


namespace Kn
open PySem PySem.Spec PyProof.Rows L2
def topS (i : Nat) : Stmt := PySem.Challenge.pw_firstletter_k08_whole_kinds_renamed.main.body.getD i (.Pass ⟨0, 0, 0, 0⟩)
theorem sum_le {n : Nat} : ∀ (ys : List Str), (∀ y ∈ ys, Fit n y) → (ys.map (·.length)).sum ≤ ys.length * n
  | [], _ => Nat.zero_le _
  | y :: r, h => by
    have ih := sum_le r fun v hv => h v (List.mem_cons_of_mem _ hv)
    have q := (h y (List.mem_cons_self ..)).1
    rw [List.map_cons, List.sum_cons, List.length_cons, Nat.add_mul]
    omega
/-- what join asks: few short texts -/
theorem join_room {n m : Nat} {a : Str} {ys : List Str} (h : ∀ y ∈ ys, Fit n y) (ha : a.length ≤ 10) (hl : ys.length ≤ m) (hm : m * (n + 10) ≤ 16777216) : (ys.map (·.length)).sum + ys.length * a.length ≤ 16777216 := by
  have h1 := sum_le ys h
  have h2 : ys.length * (n + 10) ≤ m * (n + 10) := Nat.mul_le_mul_right _ hl
  have h3 : ys.length * a.length ≤ ys.length * 10 := Nat.mul_le_mul_left _ ha
  rw [Nat.mul_add] at h2
  omega
theorem size16 : 16777216 ≤ sizeLine := by decide
theorem map_get {α β : Type} {f : α → β} {l : List α} {i : Nat} {y : β} (h : (l.map f)[i]? = some y) : ∃ x, l[i]? = some x ∧ f x = y := by
  rw [List.getElem?_map] at h
  exact Option.map_eq_some_iff.mp h
theorem seq_asg {te : TE} {g : TG} {u : TS} {D : Ends} {σ : L2.St} {H : Hp} (h : te σ H fun x H1 => g x σ H1 (u D)) : tSeq (tAsg te g) u D σ H := h
theorem big_of {n : Nat} {x : Str} (h : Fit n x) (l : n ≤ 100000) : x.length ≤ sizeLine := Nat.le_trans h.1 (Nat.le_trans l (by decide))
end Kn


namespace Kn
open PySem PySem.Spec PyProof.Rows L2
/-! ### the feed -/
abbrev kCells : Key := .inr "cells"
abbrev kAt : Key := .inr "at"
abbrev kHeld : Key := .inr "held"
abbrev kCount : Key := .inr "count"
theorem d1 : ¬ kCells = kAt := by decide +kernel
theorem d2 : ¬ kCells = kHeld := by decide +kernel
theorem d3 : ¬ kCells = kCount := by decide +kernel
theorem d4 : ¬ kAt = kHeld := by decide +kernel
theorem d5 : ¬ kAt = kCount := by decide +kernel
theorem d6 : ¬ kHeld = kCount := by decide +kernel
structure Four (a : Addr) (t h n : Int) (kvs : List (Key × V)) : Prop where
  few : kvs.length ≤ 4
  cells : valV kvs kCells = some (.ref a)
  at_ : valV kvs kAt = some (.int t)
  held : valV kvs kHeld = some (.int h)
  count : valV kvs kCount = some (.int n)
theorem putK_len {kvs : List (Key × V)} {k : Key} {x v : V} (h : valV kvs k = some x) : (putK kvs k v).length = kvs.length := by
  unfold putK
  rw [if_pos (by rw [valV_any, h]; rfl), List.length_map]
section
variable {a : Addr} {t h n : Int} {kvs : List (Key × V)}
theorem Four.put_at (q : Four a t h n kvs) (x : Int) : Four a x h n (putK kvs kAt (.int x)) :=
  ⟨by rw [putK_len q.at_]; exact q.few, by rw [valV_put, if_neg d1]; exact q.cells, by rw [valV_put, if_pos rfl], by rw [valV_put, if_neg fun e => d4 e.symm]; exact q.held, by rw [valV_put, if_neg fun e => d5 e.symm]; exact q.count⟩
theorem Four.put_held (q : Four a t h n kvs) (x : Int) : Four a t x n (putK kvs kHeld (.int x)) :=
  ⟨by rw [putK_len q.held]; exact q.few, by rw [valV_put, if_neg d2]; exact q.cells, by rw [valV_put, if_neg d4]; exact q.at_, by rw [valV_put, if_pos rfl], by rw [valV_put, if_neg fun e => d6 e.symm]; exact q.count⟩
theorem Four.put_count (q : Four a t h n kvs) (x : Int) : Four a t h x (putK kvs kCount (.int x)) :=
  ⟨by rw [putK_len q.count]; exact q.few, by rw [valV_put, if_neg d3]; exact q.cells, by rw [valV_put, if_neg d5]; exact q.at_, by rw [valV_put, if_neg d6]; exact q.held, by rw [valV_put, if_pos rfl]⟩
theorem four_new (a : Addr) : Four a 0 0 0 (mergeK [] [(kCells, .ref a), (kAt, .int 0), (kHeld, .int 0), (kCount, .int 0)]) := by
  have e : mergeK [] [(kCells, V.ref a), (kAt, .int 0), (kHeld, .int 0), (kCount, .int 0)] = putK (putK (putK (putK [] kCells (.ref a)) kAt (.int 0)) kHeld (.int 0)) kCount (.int 0) := rfl
  refine ⟨length_mergeK _ _, ?_, ?_, ?_, ?_⟩
  · rw [e, valV_put, if_neg d3, valV_put, if_neg d2, valV_put, if_neg d1, valV_put, if_pos rfl]
  · rw [e, valV_put, if_neg d5, valV_put, if_neg d4, valV_put, if_pos rfl]
  · rw [e, valV_put, if_neg d6, valV_put, if_pos rfl]
  · rw [e, valV_put, if_pos rfl]
end
/-- the feed at f, its cells at a; at most c draws were made -/
structure Fd (f a : Addr) (ns : List Int) (H : Hp) (c : Nat) : Prop where
  ex : ∃ kvs t h n, H f = some (.dK kvs) ∧ Four a t h n kvs ∧ 0 ≤ t ∧ t ≤ n ∧ n ≤ (c : Int)
  cl : H a = some (.lst (ns.map V.int))
  few : ns.length ≤ 63
def Keep (f : Addr) (H H' : Hp) : Prop := ∀ b o, b ≠ f → H b = some o → H' b = some o
theorem Keep.refl (f : Addr) (H : Hp) : Keep f H H := fun _ _ _ h => h
theorem Keep.trans {f : Addr} {H H1 H2 : Hp} (a : Keep f H H1) (b : Keep f H1 H2) : Keep f H H2 := fun c o n h => b c o n (a c o n h)
theorem keep_same {f : Addr} {H H1 : Hp} (s : Same H H1) : Keep f H H1 := fun b o _ h => s b o h
theorem keep_upd {f : Addr} {H : Hp} {o : HO} : Keep f H (upd H f o) := fun b x n h => by rw [upd_ne n]; exact h
theorem Fd.more {f a : Addr} {ns : List Int} {H : Hp} {c d : Nat} (h : Fd f a ns H c) (l : c ≤ d) : Fd f a ns H d := by
  obtain ⟨⟨kvs, t, x, n, h1, h2, h3, h4, h5⟩, h6, h7⟩ := h
  exact ⟨⟨kvs, t, x, n, h1, h2, h3, h4, by omega⟩, h6, h7⟩
theorem Fd.same {f a : Addr} {ns : List Int} {H H' : Hp} {c : Nat} (h : Fd f a ns H c) (s : Same H H') : Fd f a ns H' c := by
  obtain ⟨⟨kvs, t, x, n, h1, h2⟩, h6, h7⟩ := h
  exact ⟨⟨kvs, t, x, n, s _ _ h1, h2⟩, s _ _ h6, h7⟩
/-- a list of one's own changes -/
theorem Fd.own {f a D : Addr} {ns : List Int} {H : Hp} {c : Nat} {o : HO} (h : Fd f a ns H c) (n1 : f ≠ D) (n2 : a ≠ D) : Fd f a ns (upd H D o) c := by
  obtain ⟨⟨kvs, t, x, n, h1, h2⟩, h6, h7⟩ := h
  exact ⟨⟨kvs, t, x, n, by rw [upd_ne n1]; exact h1, h2⟩, by rw [upd_ne n2]; exact h6, h7⟩
theorem Fd.ne {f a : Addr} {ns : List Int} {H : Hp} {c : Nat} (h : Fd f a ns H c) : a ≠ f := by
  obtain ⟨⟨kvs, t, x, n, h1, _⟩, h6, _⟩ := h
  exact ne_of h6 h1 (by intro z; cases z)
theorem Fd.free {f a D : Addr} {ns : List Int} {H : Hp} {c : Nat} (h : Fd f a ns H c) (n : H D = none) : f ≠ D ∧ a ≠ D := by
  obtain ⟨⟨kvs, t, x, n', h1, _⟩, h6, _⟩ := h
  exact ⟨ne_of_none h1 n, ne_of_none h6 n⟩
/-- the feed's dict changes -/
theorem Fd.put {f a : Addr} {ns : List Int} {H : Hp} {c : Nat} {kvs : List (Key × V)} {t h n : Int} (q : Fd f a ns H c) (F : Four a t h n kvs) (h0 : 0 ≤ t) (h1 : t ≤ n) (h2 : n ≤ (c : Int)) : Fd f a ns (upd H f (.dK kvs)) c :=
  ⟨⟨kvs, t, h, n, upd_same, F, h0, h1, h2⟩, by rw [upd_ne q.ne]; exact q.cl, q.few⟩

theorem dpAll_ints {K : PySem.W.Frag} {H : Hp} : ∀ ns : List Int, DpAll K H (ns.map V.int) (ns.map PyData.int)
  | [] => .nil
  | n :: r => .cons (.int n) (dpAll_ints r)
end Kn


namespace Kn
open PySem PySem.Spec PyProof.Rows L2
abbrev nDraw : List Str := ["_law_feed", "_law_many", "_law_count", "_law_digit", "_law_cells", "_law_at", "_law_cell", "_law_mixed"]
theorem scDraw : FnScope nDraw ["_law_feed", "_law_many"] (defScope (topS 23)) := ⟨rfl, rfl, rfl, by decide +kernel, rfl, by decide +kernel, by decide +kernel⟩
theorem lay_ints : ∀ ns : List Int, PyData.canLayAll0 (ns.map PyData.int) = true
  | [] => rfl
  | n :: r => by
    show (PyData.canLay0 (.int n) && PyData.canLayAll0 (r.map PyData.int)) = true
    rw [lay_ints r]
    rfl
theorem depth_ints : ∀ ns : List Int, PyData.depthAll (ns.map PyData.int) = 0
  | [] => rfl
  | n :: r => by
    show max (PyData.depth (.int n)) (PyData.depthAll (r.map PyData.int)) = 0
    rw [depth_ints r]
    rfl
theorem shaped_ints (ns : List Int) : SeqAt.shaped (.list (ns.map PyData.int)) = true := by
  unfold SeqAt.shaped
  have h1 : PyData.canLay0 (.list (ns.map PyData.int)) = true := by
    show PyData.canLayAll0 (ns.map PyData.int) = true
    exact lay_ints ns
  have h2 : PyData.depth (.list (ns.map PyData.int)) = 1 := by
    show PyData.depthAll (ns.map PyData.int) + 1 = 1
    rw [depth_ints]
  rw [h1, h2]
  rfl
theorem eqv_nil_ints (ns : List Int) : PyData.eqv (.list (ns.map PyData.int)) (.list []) = ns.isEmpty := by
  cases ns with
  | nil => rfl
  | cons n r => rfl
theorem sq_bound {s : Int} (h0 : 0 ≤ s) (h1 : s ≤ 100001) : 0 ≤ 7069 * s * s ∧ 7069 * s * s ≤ 70571415787057 + 100000000000000 := by
  have a : 0 ≤ 7069 * s := by omega
  have b : 7069 * s ≤ 706907069 := by omega
  have c := Int.mul_nonneg a h0
  have d := Int.mul_le_mul b h1 h0 (by decide : (0 : Int) ≤ 706907069)
  exact ⟨c, Int.le_trans d (by decide)⟩
theorem at_mod {ns : List Int} {t : Int} (h : 0 ≤ t) (pos : 0 < ns.length) : ∃ x : Int, atI (ns.map V.int) (t % ((ns.map V.int).length : Int)) = some (.int x) := by
  rw [List.length_map]
  have h0 := Int.emod_nonneg t (show (ns.length : Int) ≠ 0 by omega)
  have h1 := Int.emod_lt_of_pos t (show (0 : Int) < (ns.length : Int) by omega)
  obtain ⟨j, hj⟩ := Int.eq_ofNat_of_zero_le h0
  rw [hj] at h1 ⊢
  have hl : j < ns.length := by omega
  refine ⟨ns[j], at_of rfl ?_⟩
  rw [List.getElem?_map, List.getElem?_eq_getElem hl]
  rfl
def spDraw : Sp := fun vs H Q _ => ∃ (f a : Addr) (ns : List Int) (c : Nat) (m : Int), vs = [.ref f, .int m] ∧ 0 < m ∧ m ≤ 1000 ∧ Fd f a ns H c ∧ c < 100000 ∧
  ∀ (r : Int) (H' : Hp), 0 ≤ r → r < m → Keep f H H' → Fd f a ns H' (c + 1) → Q (.int r) H'
section
variable {P : Program} {w : World} {K : PySem.W.Frag} {mg : Str → Option Value} {base : Heap}
theorem ok_draw {g : Addr} {fd : FuncData} (F : Fun K "_law_draw" "_law_draw" (topS 23) g fd) (mi : mg "int" = none) (ml : mg "len" = none) : FnOk P w K mg base CX0 1 g fd ["_law_feed", "_law_many"] spDraw := by
  refine F.ok scDraw (fun vs H Q E h => ?_) (fun cdv A outer s H vs Q E hr h => ?_)
  · obtain ⟨f, a, ns, c, m, rfl, _⟩ := h
    rfl
  · obtain ⟨f, a, ns, c, m, rfl, m0, m1, fd0, hc, q⟩ := h
    have hu := hu_of hr
    obtain ⟨kvs, t, hh, n, e1, four, t0, tn, nc⟩ := fd0.ex
    refine ⟨_, pss_cons (ps_set (i := 2) scDraw.nd rfl (.inl rfl) (pe_op op_add (pe_dget hu (pv 0) pe_str (fun _ _ => rfl)) pe_int))
      (pss_cons (ps_dput hu (pv 0) pe_str (pv 2) rfl)
      (pss_cons (ps_if (pt_cmpR op_gt (pe_dget hu (pv 0) pe_str (fun _ _ => rfl)) pe_int (nomark _))
        (pss_cons (ps_set (i := 3) scDraw.nd rfl (.inl rfl) (pe_op op_mod (pe_callTy call_int1 (by rfl) mi boot_int (pa_cons (pe_dget hu (pv 0) pe_str (fun _ _ => rfl)) pa_nil)) (pv 1)))
        (pss_cons (ps_dput hu (pv 0) pe_str (pe_op op_fdivN (pe_dget hu (pv 0) pe_str (fun _ _ => rfl)) (pv 1)) rfl)
        (pss_one (ps_ret (pv 3))))) pss_nil)
      (pss_cons (ps_par (i := 4) (j := 5) (by rfl) scDraw.nd rfl rfl (by decide) rfl rfl (pa_cons (pe_dget hu (pv 0) pe_str (fun _ _ => rfl)) (pa_cons (pe_dget hu (pv 0) pe_str (fun _ _ => rfl)) pa_nil)) (by rfl))
      (pss_cons (ps_dput hu (pv 0) pe_str (pe_op op_add (pv 5) pe_int) rfl)
      (pss_cons (ps_set (i := 6) scDraw.nd rfl (.inl rfl) (pe_ifExp (pt_cmpR (op_neD hr.units) (pv 4) (pe_lst pa_nil) (nomark _))
        (pe_ix ix_list (pv 4) (pe_op op_mod (pe_callTy call_int1 (by rfl) mi boot_int (pa_cons (pv 5) pa_nil)) (pe_callB call_len_seq (by rfl) ml PySem.boot_len (pa_cons (pv 4) pa_nil))) (fun _ _ => rfl)) pe_int))
      (pss_cons (ps_if (PW.pt (pw_and (pt_cmpR op_ge (pv 6) (pe_op op_pow pe_int pe_int) (nomark _)) (pw_and1 (pt_cmpR op_lt (pv 5) (pe_callB call_len_seq (by rfl) ml PySem.boot_len (pa_cons (pv 4) pa_nil)) (nomark _)))))
        (pss_cons (ps_dput hu (pv 0) pe_str (pe_op op_fdivN (pv 6) (pv 1)) rfl)
        (pss_one (ps_ret (pe_op op_mod (pe_callTy call_int1 (by rfl) mi boot_int (pa_cons (pv 6) pa_nil)) (pv 1))))) pss_nil)
      (pss_cons (ps_set (i := 7) scDraw.nd rfl (.inl rfl) (pe_op op_mod (pe_callTy call_int1 (by rfl) mi boot_int (pa_cons (pe_op op_pow
        (pe_op op_add (pe_op op_add (pe_op op_mod (pe_callTy call_int1 (by rfl) mi boot_int (pa_cons (pv 6) pa_nil)) pe_int) (pe_op op_mul pe_int (pv 2))) pe_int) pe_int) pa_nil)) pe_int))
      (pss_cons (ps_set (i := 7) scDraw.nd rfl (.inl rfl) (pe_op op_mod (pe_callTy call_int1 (by rfl) mi boot_int (pa_cons (pe_op op_pow
        (pe_op op_add (pe_op op_add (pv 7) (pe_op op_mul (pe_op op_mul pe_int (pv 2)) (pv 2))) pe_int) pe_int) pa_nil)) pe_int))
      (pss_one (ps_ret (pe_op op_mod (pe_callTy call_int1 (by rfl) mi boot_int (pa_cons (pe_op op_fdiv (pv 7) pe_int) pa_nil)) (pv 1)))))))))))), ?_⟩
    have n0 : 0 ≤ n := Int.le_trans t0 tn
    have dg : ∀ {H : Hp} {kvs : List (Key × V)} {k : Key} {v : V}, H f = some (.dK kvs) → valV kvs k = some v → DGet H f (kV k) (some v) := fun e z => by
      rw [← z]
      exact DGet.k e
    have four2 := four.put_count (n + 1)
    have fd2 : Fd f a ns (upd H f (.dK (putK kvs kCount (.int (n + 1))))) (c + 1) := (fd0.more (Nat.le_succ c)).put four2 t0 (by omega) (by omega)
    -- count
    refine ⟨_, rfl, f, .int n, rfl, dg (k := kCount) e1 four.count, n, 1, rfl, rfl, ?_⟩
    refine ⟨_, rfl, _, rfl, f, _, rfl, DPut.k (k := kCount) e1 (small' (Nat.le_trans four.few (by decide))), ?_⟩
    have k2 : Keep f H (upd H f (.dK (putK kvs kCount (.int (n + 1))))) := keep_upd
    have e2 : (upd H f (.dK (putK kvs kCount (.int (n + 1))))) f = some (.dK (putK kvs kCount (.int (n + 1)))) := upd_same
    generalize upd H f (.dK (putK kvs kCount (.int (n + 1)))) = H2 at fd2 e2 k2 ⊢
    generalize putK kvs kCount (.int (n + 1)) = kv2 at four2 e2
    have fw : 4 ≤ sizeLine := by decide
    have m3 : ∀ x : Int, 0 ≤ x % m ∧ x % m < m := fun x => ⟨Int.emod_nonneg _ (by omega), Int.emod_lt_of_pos _ m0⟩
    have cd : CDivN hh m := ⟨by omega, by omega⟩
    refine ⟨_, rfl, f, .int hh, rfl, dg (k := kHeld) e2 four2.held, hh, 0, rfl, rfl, _, rfl, ite2 (fun _ => ?_) (fun _ => ?_)⟩
    · -- a figure of what is held
      refine ⟨_, rfl, f, .int hh, rfl, dg (k := kHeld) e2 four2.held, .inl ⟨hh, rfl, _, rfl, hh, m, rfl, rfl, m0, ?_⟩⟩
      refine ⟨_, rfl, f, .int hh, rfl, dg (k := kHeld) e2 four2.held, _, rfl, hh, m, rfl, rfl, cd, ?_⟩
      refine ⟨_, rfl, f, _, rfl, DPut.k (k := kHeld) e2 (small' (Nat.le_trans four2.few (by decide))), ?_⟩
      exact ⟨_, rfl, q _ _ (m3 hh).1 (m3 hh).2 (k2.trans keep_upd) (fd2.put (four2.put_held _) t0 (by omega) (by omega))⟩
    · -- the next cell
      refine ⟨_, rfl, f, .ref a, rfl, dg (k := kCells) e2 four2.cells, _, rfl, f, .int t, rfl, dg (k := kAt) e2 four2.at_, _, _, rfl, ?_⟩
      have four3 := four2.put_at (t + 1)
      have fd3 := fd2.put four3 (by omega) (by omega) (by omega)
      have k3 := k2.trans (keep_upd (f := f) (H := H2) (o := .dK (putK kv2 kAt (.int (t + 1)))))
      have e3 : (upd H2 f (.dK (putK kv2 kAt (.int (t + 1))))) f = some (.dK (putK kv2 kAt (.int (t + 1)))) := upd_same
      refine ⟨_, rfl, t, 1, rfl, rfl, _, rfl, f, _, rfl, DPut.k (k := kAt) e2 (small' (Nat.le_trans four2.few (by decide))), ?_⟩
      generalize upd H2 f (.dK (putK kv2 kAt (.int (t + 1)))) = H3 at fd3 e3 k3 ⊢
      generalize putK kv2 kAt (.int (t + 1)) = kv3 at four3 e3
      have cl : SqL K H3 a (ns.map V.int) := .inl (.inl fd3.cl)
      refine ⟨.ref a, rfl, Nat.zero_le _, fun z nz => ⟨.list (ns.map PyData.int), .list [], .lst (.inl (.inl (by rw [upd_ne (fd3.free nz).2]; exact fd3.cl))) (dpAll_ints ns), .lst (.inl (.inl upd_same)) .nil, shaped_ints ns, rfl, _, rfl, ?_⟩⟩
      have k4 : Keep f H (upd H3 z (.lst [])) := k3.trans (keep_same (same_new nz))
      have fd4 : Fd f a ns (upd H3 z (.lst [])) (c + 1) := fd3.own (fd3.free nz).1 (fd3.free nz).2
      have e4 : (upd H3 z (.lst [])) f = some (.dK kv3) := by rw [upd_ne (fd3.free nz).1]; exact e3
      generalize upd H3 z (.lst []) = H4 at k4 fd4 e4 ⊢
      have cl4 : SqL K H4 a (ns.map V.int) := .inl (.inl fd4.cl)
      have s0 : 0 ≤ n + 1 := by omega
      have s1 : n + 1 ≤ 100001 := by omega
      have sq := sq_bound s0 s1
      rw [eqv_nil_ints]
      cases hns : ns.isEmpty
      case' false =>
        have pos : 0 < ns.length := by
          cases ns with
          | nil => cases hns
          | cons _ _ => exact Nat.succ_pos _
        obtain ⟨x, hx⟩ := at_mod (ns := ns) (t := t) t0 pos
        refine iteT ⟨.ref a, rfl, _, rfl, .inl ⟨t, rfl, .ref a, rfl, a, ns.map V.int, rfl, .inl cl4, t, _, rfl, rfl, (by rw [List.length_map]; omega), a, ns.map V.int, _, .int x, rfl, rfl, cl4, hx, ?_⟩⟩
      case' true =>
        refine iteF ?_
        show Ends.nx _ (List.set _ 6 (some (V.int 389))) H4
        generalize (389 : Int) = x
      all_goals
        have tail : ∀ (y : Int), 0 ≤ y → y < 2147483629 → (y + 7069 * (n + 1) * (n + 1) + 251).natAbs < 2 ^ 64 := fun y y0 y1 => by omega
        have head : (x % 1000000181 + 40093 * (n + 1) + 1051).natAbs < 2 ^ 64 := by
          have := Int.emod_nonneg x (show (1000000181 : Int) ≠ 0 by decide)
          have := Int.emod_lt_of_pos x (show (0 : Int) < 1000000181 by decide)
          omega
        have mids : ∀ u : Int, 0 ≤ u % 2147483629 ∧ u % 2147483629 < 2147483629 := fun u => ⟨Int.emod_nonneg _ (by decide), Int.emod_lt_of_pos _ (by decide)⟩
        refine ⟨_, rfl, 10, 18, rfl, rfl, ⟨by decide, by decide, by decide⟩, x, _, rfl, rfl, _, rfl, ite2 (fun _ => ⟨_, rfl, .ref a, rfl, a, _, rfl, .inl cl4, t, _, rfl, rfl, _, rfl, ite2 (fun _ => ?_) (fun _ => ?_)⟩) (fun _ => ?_)⟩
        · refine ⟨_, rfl, _, rfl, x, m, rfl, rfl, ⟨by omega, by omega⟩, _, rfl, f, _, rfl, DPut.k (k := kHeld) e4 (small' (Nat.le_trans four3.few (by decide))), ?_⟩
          exact ⟨_, rfl, .inl ⟨x, rfl, _, rfl, x, m, rfl, rfl, m0, q _ _ (m3 x).1 (m3 x).2 (k4.trans keep_upd) (fd4.put (four3.put_held _) (by omega) (by omega) (by omega))⟩⟩
        all_goals
          refine ⟨_, rfl, .inl ⟨x, rfl, x, _, rfl, rfl, (show (0 : Int) < 1000000181 by decide), _, rfl, _, n + 1, rfl, rfl, .inl ⟨by decide, by decide⟩, _, _, rfl, rfl, _, _, rfl, rfl, _, _, rfl, rfl, ⟨by decide, by decide, head⟩, .inl ⟨_, rfl, _, _, rfl, rfl, (show (0 : Int) < 2147483629 by decide), ?_⟩⟩⟩
          obtain ⟨y0, y1⟩ := mids ((x % 1000000181 + 40093 * (n + 1) + 1051) ^ (2 : Int).toNat)
          refine ⟨_, rfl, _, rfl, _, n + 1, rfl, rfl, .inl ⟨by decide, by decide⟩, _, rfl, _, n + 1, rfl, rfl, .inl ⟨by omega, by omega⟩, _, _, rfl, rfl, _, _, rfl, rfl, _, _, rfl, rfl, ⟨by decide, by decide, tail _ y0 y1⟩, .inl ⟨_, rfl, _, _, rfl, rfl, (show (0 : Int) < 2147483587 by decide), ?_⟩⟩
          exact ⟨_, rfl, _, _, rfl, rfl, ⟨by decide, by decide⟩, .inl ⟨_, rfl, _, rfl, _, m, rfl, rfl, m0, q _ _ (m3 _).1 (m3 _).2 k4 fd4⟩⟩
end
end Kn


namespace Kn
open PySem PySem.Spec PyProof.Rows L2
/-! ### what stays -/
def TS (H H' : Hp) : Prop := (∀ b xs, H b = some (.tup xs) → H' b = some (.tup xs)) ∧ ∀ b o xs, H b = some (.frz o (.tup xs)) → H' b = some (.frz o (.tup xs))
theorem TS.refl (H : Hp) : TS H H := ⟨fun _ _ h => h, fun _ _ _ h => h⟩
theorem TS.trans {H H1 H2 : Hp} (a : TS H H1) (b : TS H1 H2) : TS H H2 := ⟨fun c x h => b.1 c x (a.1 c x h), fun c o x h => b.2 c o x (a.2 c o x h)⟩
theorem ts_same {H H' : Hp} (s : Same H H') : TS H H' := ⟨fun b xs h => s b _ h, fun b o xs h => s b _ h⟩
theorem ts_keep {f : Addr} {H H' : Hp} {kvs : List (Key × V)} (e : H f = some (.dK kvs)) (k : Keep f H H') : TS H H' :=
  ⟨fun b xs h => k b _ (ne_of h e (by intro z; cases z)) h, fun b o xs h => k b _ (ne_of h e (by intro z; cases z)) h⟩
theorem ts_fd {f a : Addr} {ns : List Int} {H H' : Hp} {c : Nat} (d : Fd f a ns H c) (k : Keep f H H') : TS H H' := by
  obtain ⟨⟨kvs, t, x, n, h1, _⟩, _, _⟩ := d
  exact ts_keep h1 k
theorem ts_lst {D : Addr} {H : Hp} {acc : List V} {o : HO} (e : H D = some (.lst acc)) : TS H (upd H D o) :=
  ⟨fun b xs h => by rw [upd_ne (ne_of h e (by intro z; cases z))]; exact h, fun b o xs h => by rw [upd_ne (ne_of h e (by intro z; cases z))]; exact h⟩
theorem tupT {K : PySem.W.Frag} {H H' : Hp} {a : Addr} {xs : List V} (s : TS H H') (h : SqT K H a xs) : SqT K H' a xs := by
  rcases h with (h | ⟨o, h⟩) | h
  · exact .inl (.inl (s.1 _ _ h))
  · exact .inl (.inr ⟨o, s.2 _ _ _ h⟩)
  · exact .inr h
theorem EntAt.ts {K : PySem.W.Frag} {H H' : Hp} {v : V} {e : Ent} (s : TS H H') : EntAt K H v e → EntAt K H' v e := fun ⟨p, q, a, b, c⟩ => ⟨p, q, a, tupT s b, tupT s c⟩
theorem EntsAt.ts {K : PySem.W.Frag} {H H' : Hp} (s : TS H H') : ∀ {vs : List V} {es : List Ent}, EntsAt K H vs es → EntsAt K H' vs es
  | _, _, .nil => .nil
  | _, _, .cons a b => .cons (a.ts s) (EntsAt.ts s b)
theorem PgAt.ts {K : PySem.W.Frag} {H H' : Hp} {v : V} {g : Pg} (s : TS H H') : PgAt K H v g → PgAt K H' v g := fun ⟨p, q, vs, a, b, c, d⟩ => ⟨p, q, vs, a, tupT s b, tupT s c, d.ts s⟩
theorem fd_ne {f a p : Addr} {ns : List Int} {H : Hp} {c : Nat} {xs : List V} (d : Fd f a ns H c) (h : H p = some (.lst xs)) : p ≠ f := by
  obtain ⟨⟨kvs, t, x, n, h1, _⟩, _, _⟩ := d
  exact ne_of h h1 (by intro z; cases z)
theorem seqK {K : PySem.W.Frag} {f a p : Addr} {ns : List Int} {H H' : Hp} {c : Nat} {xs : List V} (d : Fd f a ns H c) (k : Keep f H H') (h : SqL K H p xs) : SqL K H' p xs := by
  obtain ⟨⟨kvs, t, x, n, h1, _⟩, _, _⟩ := d
  rcases h with (h | ⟨o, h⟩) | h
  · exact .inl (.inl (k _ _ (ne_of h h1 (by intro z; cases z)) h))
  · exact .inl (.inr ⟨o, k _ _ (ne_of h h1 (by intro z; cases z)) h⟩)
  · exact .inr h

abbrev nStart : List Str := ["_law_script"]
theorem scStart : FnScope nStart ["_law_script"] (defScope (topS 22)) := ⟨rfl, rfl, rfl, by decide +kernel, rfl, by decide +kernel, by decide +kernel⟩
abbrev nAny : List Str := ["_law_feed", "_law_some"]
theorem scAny : FnScope nAny ["_law_feed", "_law_some"] (defScope (topS 24)) := ⟨rfl, rfl, rfl, by decide +kernel, rfl, by decide +kernel, by decide +kernel⟩
abbrev nLab : List Str := ["_law_feed", "_law_many", "_law_pool", "_law_first", "_law_stride", "_law_k"]
theorem scLab : FnScope nLab ["_law_feed", "_law_many"] (defScope (topS 25)) := ⟨rfl, rfl, rfl, by decide +kernel, rfl, by decide +kernel, by decide +kernel⟩
def spStart (K : PySem.W.Frag) : Sp := fun vs H Q _ => ∃ (s : Addr) (ns : List Int), vs = [.ref s] ∧ SqL K H s (ns.map V.int) ∧ ns.length ≤ 63 ∧
  ∀ (f a : Addr) (ms : List Int) (H' : Hp), H f = none → Same H H' → Fd f a ms H' 0 → Q (.ref f) H'
def spAny (K : PySem.W.Frag) : Sp := fun vs H Q _ => ∃ (f a p : Addr) (ns : List Int) (c : Nat) (xs : List V), vs = [.ref f, .ref p] ∧ Fd f a ns H c ∧ c < 100000 ∧ SqL K H p xs ∧ 0 < xs.length ∧ xs.length ≤ 1000 ∧
  ∀ (x : V) (H' : Hp), x ∈ xs → Keep f H H' → Fd f a ns H' (c + 1) → Q x H'
def pool1 : List Str := ["a", "b", "c", "d", "e", "f", "g"]
def pool2 : List Str := ["ab", "a", "abc", "b", "ba", "z", "abcdefgh"]
def pool3 : List Str := ["kind", "asker", "has", "not", "store", "on", "guard"]
def pool4 : List Str := ["m", "zoo", "keeper", "s", "st", "zz", "note"]
def names : List Str := pool1 ++ pool2 ++ pool3 ++ pool4
theorem names_fit : ∀ y ∈ names, Fit 8 y := by
  have h : ∀ y ∈ names, y.length ≤ 8 ∧ y.cps.toList.all (fun c => decide (c < 16 ^ 8)) = true := by decide +kernel
  intro y hy
  obtain ⟨h1, h2⟩ := h y hy
  exact ⟨h1, fun c hc => of_decide_eq_true (List.all_eq_true.mp h2 c hc)⟩
/-! ### the order of names -/
def Lt (a b : Str) : Prop := ltCps a.cps.toList b.cps.toList = true
abbrev Asc (ys : List Str) : Prop := ys.Pairwise Lt
theorem lt_trans {a b c : Str} (ha : a ∈ names) (hb : b ∈ names) (hc : c ∈ names) (h : Lt a b) (k : Lt b c) : Lt a c := by
  have all : (names.all fun a => names.all fun b => !ltCps a.cps.toList b.cps.toList || names.all fun c => !ltCps b.cps.toList c.cps.toList || ltCps a.cps.toList c.cps.toList) = true := by decide +kernel
  have q := List.all_eq_true.mp (List.all_eq_true.mp all a ha) b hb
  rw [h, Bool.not_true, Bool.false_or] at q
  have q := List.all_eq_true.mp q c hc
  rw [k, Bool.not_true, Bool.false_or] at q
  exact q
theorem lt_total {a b : Str} (ha : a ∈ names) (hb : b ∈ names) (ne : a ≠ b) (h : ltCps b.cps.toList a.cps.toList = false) : Lt a b := by
  have all : (names.all fun a => names.all fun b => decide (a = b) || ltCps a.cps.toList b.cps.toList || ltCps b.cps.toList a.cps.toList) = true := by decide +kernel
  have q := List.all_eq_true.mp (List.all_eq_true.mp all a ha) b hb
  rw [decide_eq_false ne, h, Bool.false_or, Bool.or_false] at q
  exact q
theorem asc_rising : ∀ (r : List Str) (p : Str), risingS p r = true → (p :: r).Nodup → (∀ y ∈ p :: r, y ∈ names) → (p :: r).Pairwise Lt
  | [], _, _, _, _ => List.pairwise_singleton _ _
  | x :: r, p, h, nd, hn => by
    have h : (!ltCps x.cps.toList p.cps.toList && risingS x r) = true := h
    obtain ⟨h1, h2⟩ := Bool.and_eq_true_iff.mp h
    have nd2 := (List.nodup_cons.mp nd).2
    have npx : p ≠ x := fun z => (List.nodup_cons.mp nd).1 (z ▸ List.mem_cons_self ..)
    have hp := hn p (List.mem_cons_self ..)
    have hx := hn x (List.mem_cons_of_mem _ (List.mem_cons_self ..))
    have lpx : Lt p x := lt_total hp hx npx (by simpa using h1)
    have ih := asc_rising r x h2 nd2 (fun y hy => hn y (List.mem_cons_of_mem _ hy))
    refine List.pairwise_cons.mpr ⟨fun y hy => ?_, ih⟩
    rcases List.mem_cons.mp hy with rfl | hy
    · exact lpx
    · exact lt_trans hp hx (hn y (List.mem_cons_of_mem _ (List.mem_cons_of_mem _ hy))) lpx ((List.pairwise_cons.mp ih).1 y hy)
theorem asc_sorted {ys : List Str} (h : sortedS ys = true) (nd : ys.Nodup) (hn : ∀ y ∈ ys, y ∈ names) : Asc ys := by
  cases ys with
  | nil => exact List.Pairwise.nil
  | cons p r => exact asc_rising r p h nd hn
def pick (pool : List Str) (r u k : Nat) : Str := pool.getD ((r + k * (1 + u)) % 7) Str.empty
theorem pick_nodup {pool : List Str} (hp : pool ∈ [pool1, pool2, pool3, pool4]) {r u m : Nat} (hr : r < 7) (hu : u < 6) (hm : m ≤ 7) : ((List.range m).map (pick pool r u)).Nodup := by
  have all : ([pool1, pool2, pool3, pool4].all fun p => (List.range 7).all fun r => (List.range 6).all fun u => decide ((List.range 7).map (pick p r u)).Nodup) = true := by decide +kernel
  have q := of_decide_eq_true (List.all_eq_true.mp (List.all_eq_true.mp (List.all_eq_true.mp all pool hp) r (List.mem_range.mpr hr)) u (List.mem_range.mpr hu))
  refine List.Nodup.sublist (List.Sublist.map _ ?_) q
  have e : List.range m = (List.range 7).take m := by rw [List.take_range, Nat.min_eq_left hm]
  rw [e]
  exact List.take_sublist _ _
theorem pick_at {pool : List Str} (hl : pool.length = 7) {r u i j : Nat} (hj : ((r : Int) + (0 + (i : Int)) * (1 + (u : Int))) % 7 = (j : Int)) (h : j < pool.length) : pool[j] = pick pool r u i := by
  have e : (r : Int) + (0 + (i : Int)) * (1 + (u : Int)) = ((r + i * (1 + u) : Nat) : Int) := by
    rw [Int.natCast_add, Int.natCast_mul, Int.natCast_add, Int.zero_add]
    rfl
  rw [e] at hj
  have z : (r + i * (1 + u)) % 7 = j := by omega
  unfold pick
  rw [z, List.getD_eq_getElem?_getD, List.getElem?_eq_getElem h]
  rfl
def spLab : Sp := fun vs H Q _ => ∃ (f a : Addr) (ns : List Int) (c : Nat) (m : Nat), vs = [.ref f, .int m] ∧ m ≤ 7 ∧ Fd f a ns H c ∧ c < 90000 ∧
  ∀ (ys : List Str) (q : Addr) (H' : Hp), H q = none → H' q = some (.lst (ys.map V.str)) → ys.length = m → (∀ y ∈ ys, y ∈ names) → Asc ys → Keep f H H' → Fd f a ns H' (c + 3) → Q (.ref q) H'
section
variable {P : Program} {w : World} {K : PySem.W.Frag} {mg : Str → Option Value} {base : Heap}
theorem ok_start {g : Addr} {fd : FuncData} (F : Fun K "_law_start" "_law_start" (topS 22) g fd) : FnOk P w K mg base CX0 1 g fd ["_law_script"] (spStart K) := by
  refine F.ok scStart (fun vs H Q E h => ?_) (fun cdv A outer s H vs Q E hr h => ?_)
  · obtain ⟨s, ns, rfl, _⟩ := h
    rfl
  · obtain ⟨s, ns, rfl, hS, hl, q⟩ := h
    refine ⟨_, pss_one (ps_ret (pe_disp (pps_cons pe_str (pe_slice sl_list (pv 0) po_none (po_some pe_int)) (pps_cons pe_str pe_int (pps_cons pe_str pe_int (pps_cons pe_str pe_int pps_nil)))) (by rfl) (by rfl) (fun z => by cases z) (by decide))), ?_⟩
    intro f nf
    refine ⟨.ref s, rfl, 63, rfl, s, _, rfl, (same_new nf).seq hS, fun a na => ?_⟩
    have nfa : f ≠ a := ne_of_none (upd_same (H := H) (a := f) (o := .dK [])) na
    have na0 : H a = none := (same_new nf).free na
    refine ⟨by rw [upd_ne nfa]; exact upd_same, [(kCells, .ref a), (kAt, .int 0), (kHeld, .int 0), (kCount, .int 0)], rfl, (show 4 ≤ 15 by decide), ?_⟩
    refine q f a ((ns.drop (HT.sIx (ns.map V.int).length 0 none)).take (HT.sIx (ns.map V.int).length (ns.map V.int).length (some 63) - HT.sIx (ns.map V.int).length 0 none)) _ nf ?_ ⟨⟨_, 0, 0, 0, upd_same, four_new a, by decide, by decide, by decide⟩, ?_, ?_⟩
    · exact putS (putS (same_new nf) na0) nf
    · rw [upd_ne nfa.symm, upd_same]
      unfold cutV
      rw [List.map_take, List.map_drop]
    · rw [List.length_take, List.length_drop]
      omega
theorem ok_any {g gD : Addr} {fd fdD : FuncData} (F : Fun K "_law_any" "_law_any" (topS 24) g fd) (FD : Fun K "_law_draw" "_law_draw" (topS 23) gD fdD) (bD : Binds K fdD ["_law_feed", "_law_many"] []) (mD : mg "_law_draw" = some (.ref gD)) (mi : mg "int" = none) (ml : mg "len" = none) :
    FnOk P w K mg base CX0 2 g fd ["_law_feed", "_law_some"] (spAny K) := by
  have GD : FnOk P w K mg base CX0 1 gD fdD ["_law_feed", "_law_many"] spDraw := ok_draw FD mi ml
  refine F.ok scAny (fun vs H Q E h => ?_) (fun cdv A outer s H vs Q E hr h => ?_)
  · obtain ⟨f, a, p, ns, c, xs, rfl, _⟩ := h
    rfl
  · obtain ⟨f, a, p, ns, c, xs, rfl, fd0, hc, hL, l0, l1, q⟩ := h
    refine ⟨_, pss_one (ps_ret (pe_ix ix_list (pv 1) (pe_call GD hr (by rfl) mD FD.kp bD .nil pass0 (pa_cons (pv 0) (pa_cons (pe_callB call_len_seq (by rfl) ml PySem.boot_len (pa_cons (pv 1) pa_nil)) pa_nil))) (fun _ _ => rfl))), ?_⟩
    refine ⟨.ref p, rfl, .ref f, rfl, .ref p, rfl, p, xs, rfl, .inl hL, f, a, ns, c, _, rfl, by omega, by omega, fd0, hc, fun r H' r0 r1 k fd1 => ?_⟩
    obtain ⟨j, rfl⟩ := Int.eq_ofNat_of_zero_le r0
    have hj : j < xs.length := by omega
    exact ⟨p, xs, _, xs[j], rfl, rfl, seqK fd0 k hL, at_of rfl (List.getElem?_eq_getElem hj), q _ H' (List.getElem_mem hj) k fd1⟩
theorem ok_lab {g gD gA : Addr} {fd fdD fdA : FuncData} (F : Fun K "_law_labels" "_law_labels" (topS 25) g fd) (FA : Fun K "_law_any" "_law_any" (topS 24) gA fdA) (bA : Binds K fdA ["_law_feed", "_law_some"] []) (mA : mg "_law_any" = some (.ref gA))
    (FD : Fun K "_law_draw" "_law_draw" (topS 23) gD fdD) (bD : Binds K fdD ["_law_feed", "_law_many"] []) (mD : mg "_law_draw" = some (.ref gD)) (mi : mg "int" = none) (ml : mg "len" = none) (mr : mg "range" = none) (mo : mg "sorted" = none) :
    FnOk P w K mg base CX0 3 g fd ["_law_feed", "_law_many"] spLab := by
  have GD : FnOk P w K mg base CX0 1 gD fdD ["_law_feed", "_law_many"] spDraw := ok_draw FD mi ml
  have GA : FnOk P w K mg base CX0 2 gA fdA ["_law_feed", "_law_some"] (spAny K) := ok_any FA FD bD mD mi ml
  refine F.ok scLab (fun vs H Q E h => ?_) (fun cdv A outer s H vs Q E hr h => ?_)
  · obtain ⟨f, a, ns, c, m, rfl, _⟩ := h
    rfl
  · obtain ⟨f, a, ns, c, m, rfl, hm, fd0, hc, q⟩ := h
    have hr1 : Room 1 _ := hr.mono (by decide)
    refine ⟨_, pss_cons (ps_set (i := 2) scLab.nd rfl (.inr rfl) (pe_call GA hr (by rfl) mA FA.kp bA .nil pass0 (pa_cons (pv 0) (pa_cons
        (pe_lst (pa_cons (pe_lst (pa_cons pe_str (pa_cons pe_str (pa_cons pe_str (pa_cons pe_str (pa_cons pe_str (pa_cons pe_str (pa_cons pe_str pa_nil))))))))
          (pa_cons (pe_lst (pa_cons pe_str (pa_cons pe_str (pa_cons pe_str (pa_cons pe_str (pa_cons pe_str (pa_cons pe_str (pa_cons pe_str pa_nil))))))))
          (pa_cons (pe_lst (pa_cons pe_str (pa_cons pe_str (pa_cons pe_str (pa_cons pe_str (pa_cons pe_str (pa_cons pe_str (pa_cons pe_str pa_nil))))))))
          (pa_cons (pe_lst (pa_cons pe_str (pa_cons pe_str (pa_cons pe_str (pa_cons pe_str (pa_cons pe_str (pa_cons pe_str (pa_cons pe_str pa_nil)))))))) pa_nil))))) pa_nil))))
      (pss_cons (ps_asg (pe_tup (pa_cons (pe_call GD hr1 (by rfl) mD FD.kp bD .nil pass0 (pa_cons (pv 0) (pa_cons pe_int pa_nil))) (pa_cons (pe_op op_add pe_int (pe_call GD hr1 (by rfl) mD FD.kp bD .nil pass0 (pa_cons (pv 0) (pa_cons pe_int pa_nil)))) pa_nil)))
        (pg_tup (by rfl) (pgs_cons (pg_name (i := 3) scLab.nd rfl (.inr rfl)) (pgs_cons (pg_name (i := 4) scLab.nd rfl (.inr rfl)) pgs_nil))))
      (pss_one (ps_ret (pe_callB cr_sortedS (by rfl) mo (by decide +kernel) (pa_cons (pe_lc (own := [("_law_k", 5)]) (g := gName 5) (by rfl) scLab.nd (pi_range1 (by rfl) mr (pa_cons (pv 1) pa_nil)) (blkOk_by (own := [("_law_k", 5)]) (N := nLab) (sc := defScope (topS 25)) (by decide +kernel))
        (fun _ _ _ _ _ => pg_name (i := 5) scLab.nd rfl (Or.inl rfl)) (fun _ _ _ _ _ => pts_nil) (fun _ _ _ _ _ => pe_ix (r := rIxL K) ix_list (pv 2) (pe_op op_mod (pe_callTy call_int1 (by rfl) mi boot_int (pa_cons (pe_op op_add (pv 3) (pe_op op_mul (pv 5) (pv 4))) pa_nil)) pe_int) (fun _ _ => rfl))) pa_nil))))), ?_⟩
    -- the pools
    refine ⟨.ref f, rfl, (show 7 ≤ sizeLine by decide), fun p1 n1 => ⟨(show 7 ≤ sizeLine by decide), fun p2 n2 => ⟨(show 7 ≤ sizeLine by decide), fun p3 n3 => ⟨(show 7 ≤ sizeLine by decide), fun p4 n4 => ⟨(show 4 ≤ sizeLine by decide), fun p0 n0 => ?_⟩⟩⟩⟩⟩
    have s1 : Same H (upd H p1 (.lst (pool1.map V.str))) := same_new n1
    have s2 : Same _ (upd (upd H p1 (.lst (pool1.map V.str))) p2 (.lst (pool2.map V.str))) := same_new n2
    have s3 : Same _ (upd (upd (upd H p1 (.lst (pool1.map V.str))) p2 (.lst (pool2.map V.str))) p3 (.lst (pool3.map V.str))) := same_new n3
    have s4 : Same _ (upd (upd (upd (upd H p1 (.lst (pool1.map V.str))) p2 (.lst (pool2.map V.str))) p3 (.lst (pool3.map V.str))) p4 (.lst (pool4.map V.str))) := same_new n4
    have s0 : Same _ (upd (upd (upd (upd (upd H p1 (.lst (pool1.map V.str))) p2 (.lst (pool2.map V.str))) p3 (.lst (pool3.map V.str))) p4 (.lst (pool4.map V.str))) p0 (.lst [.ref p1, .ref p2, .ref p3, .ref p4])) := same_new n0
    have e1 := s0 _ _ (s4 _ _ (s3 _ _ (s2 _ _ (upd_same (H := H) (a := p1) (o := .lst (pool1.map V.str))))))
    have e2 := s0 _ _ (s4 _ _ (s3 _ _ (upd_same (a := p2) (o := .lst (pool2.map V.str)))))
    have e3 := s0 _ _ (s4 _ _ (upd_same (a := p3) (o := .lst (pool3.map V.str))))
    have e4 := s0 _ _ (upd_same (a := p4) (o := .lst (pool4.map V.str)))
    have sm := (((s1.trans s2).trans s3).trans s4).trans s0
    have fd5 := fd0.same sm
    refine ⟨f, a, p0, ns, c, [.ref p1, .ref p2, .ref p3, .ref p4], rfl, fd5, by omega, .inl (.inl upd_same), (show 0 < 4 by decide), (show 4 ≤ 1000 by decide), fun x H6 hx k6 fd6 => ?_⟩
    obtain ⟨pp, pool, rfl, ep, lp, hp, hpool⟩ : ∃ (pp : Addr) (pool : List Str), x = .ref pp ∧ H6 pp = some (.lst (pool.map V.str)) ∧ pool.length = 7 ∧ (∀ y ∈ pool, y ∈ names) ∧ pool ∈ [pool1, pool2, pool3, pool4] := by
      simp only [List.mem_cons, List.not_mem_nil, or_false] at hx
      rcases hx with rfl | rfl | rfl | rfl
      · exact ⟨p1, pool1, rfl, k6 _ _ (fd_ne fd5 e1) e1, rfl, fun y hy => List.mem_append_left _ (List.mem_append_left _ (List.mem_append_left _ hy)), by simp⟩
      · exact ⟨p2, pool2, rfl, k6 _ _ (fd_ne fd5 e2) e2, rfl, fun y hy => List.mem_append_left _ (List.mem_append_left _ (List.mem_append_right _ hy)), by simp⟩
      · exact ⟨p3, pool3, rfl, k6 _ _ (fd_ne fd5 e3) e3, rfl, fun y hy => List.mem_append_left _ (List.mem_append_right _ hy), by simp⟩
      · exact ⟨p4, pool4, rfl, k6 _ _ (fd_ne fd5 e4) e4, rfl, fun y hy => List.mem_append_right _ hy, by simp⟩
    have kk6 : Keep f H H6 := (keep_same sm).trans k6
    clear e1 e2 e3 e4 s1 s2 s3 s4 s0 sm
    -- the two draws
    refine ⟨.ref f, rfl, f, a, ns, c + 1, 7, rfl, by decide, by decide, fd6, by omega, fun r H7 r0 r1 k7 fd7 => ?_⟩
    refine ⟨.ref f, rfl, f, a, ns, c + 2, 6, rfl, by decide, by decide, fd7, by omega, fun u H8 u0 u1 k8 fd8 => ⟨1, u, rfl, rfl, (show 2 ≤ sizeLine by decide), fun t nt => ?_⟩⟩
    refine ⟨t, _, rfl, .inl (.inl upd_same), rfl, _, _, rfl, _, _, rfl, rfl, ?_⟩
    have k9 : Keep f H (upd H8 t (.tup [V.int r, V.int (1 + u)])) := ((kk6.trans k7).trans k8).trans (keep_same (same_new nt))
    have fd9 := fd8.same (same_new (o := .tup [V.int r, V.int (1 + u)]) nt)
    have ep8 := k8 _ _ (fd_ne fd6 ep) (k7 _ _ (fd_ne fd6 ep) ep)
    have ep9 : (upd H8 t (.tup [V.int r, V.int (1 + u)])) pp = some (.lst (pool.map V.str)) := same_new nt _ _ ep8
    generalize upd H8 t (.tup [V.int r, V.int (1 + u)]) = H9 at k9 fd9 ep9 ⊢
    obtain ⟨rn, hrn⟩ := Int.eq_ofNat_of_zero_le r0
    obtain ⟨un, hun⟩ := Int.eq_ofNat_of_zero_le u0
    -- the labels
    refine ⟨_, rfl, m, rfl, by omega, by omega, fun D nD => ?_⟩
    refine lc_range (lo := 0) (n := (m : Int).toNat) (fun i G => Same H9 G ∧ ∃ ys : List Str, G D = some (.lst (ys.map V.str)) ∧ ys.length = i ∧ (∀ y ∈ ys, y ∈ names) ∧ ys = (List.range i).map (pick pool rn un)) ⟨same_new nD, [], upd_same, rfl, (fun y hy => by cases hy), rfl⟩ ?_ ?_
    · rintro i G hi ⟨sG, ys, hD, hl, hy, hys⟩
      rw [Int.toNat_natCast] at hi
      refine ⟨rfl, ?_⟩
      simp only [tYes, ↓reduceIte]
      have z0 := Int.emod_nonneg (r + (0 + (i : Int)) * (1 + u)) (show (7 : Int) ≠ 0 by decide)
      have z1 := Int.emod_lt_of_pos (r + (0 + (i : Int)) * (1 + u)) (show (0 : Int) < 7 by decide)
      obtain ⟨j, hj⟩ := Int.eq_ofNat_of_zero_le z0
      have hjl : j < pool.length := by omega
      refine ⟨_, rfl, _, rfl, _, rfl, _, rfl, _, _, rfl, rfl, .inl ⟨by omega, by omega⟩, _, _, rfl, rfl, .inl ⟨_, rfl, _, _, rfl, rfl, (show (0 : Int) < 7 by decide), pp, pool.map V.str, _, .str pool[j], rfl, rfl, .inl (.inl (sG _ _ ep9)), at_of hj ?_, ys.map V.str, hD, ?_, ?_, ys ++ [pool[j]], ?_, ?_, ?_, ?_⟩⟩
      · rw [List.getElem?_map, List.getElem?_eq_getElem hjl]
        rfl
      · rw [List.length_map]
        exact small' (by omega)
      · exact putS sG nD
      · rw [upd_same, List.map_append]
        rfl
      · rw [List.length_append, hl]
        rfl
      · intro y hy'
        rcases List.mem_append.mp hy' with h | h
        · exact hy y h
        · rw [List.mem_singleton.mp h]
          exact hp _ (List.getElem_mem hjl)
      · rw [List.range_succ, List.map_append, ← hys, List.map_singleton]
        rw [hrn, hun] at hj
        rw [pick_at lp hj hjl]
    · rintro G ⟨sG, ys, hD, hl, hy, hys⟩
      rw [Int.toNat_natCast] at hl hys
      have ndy : ys.Nodup := by
        rw [hys]
        exact pick_nodup hpool (by omega) (by omega) hm
      refine ⟨D, ys, rfl, .inl (.inl hD), by omega, fun zs p perm srt np => ?_⟩
      have sp := putS (o := .lst (zs.map V.str)) sG (sG.free np)
      refine q zs p _ ?_ upd_same (by rw [perm.length_eq, hl]) (fun y hz => hy y (perm.mem_iff.mp hz)) (asc_sorted srt (perm.nodup_iff.mpr ndy) (fun y hz => hy y (perm.mem_iff.mp hz))) (k9.trans (keep_same sp)) ((fd9.same sp).more (by omega))
      cases hpH : H p with
      | none => rfl
      | some o =>
        by_cases hpf : p = f
        · subst hpf
          exact absurd rfl ((fd9.same sG).free np).1
        · have := sG _ _ (k9 _ _ hpf hpH)
          rw [np] at this
          cases this
end
end Kn


namespace Kn
open PySem PySem.Spec PyProof.Rows L2
abbrev nPg : List Str := ["_law_feed", "_law_most", "_law_labels_here", "_law_asks", "_law_entries", "_law_label", "_law_holds", "_law_row", "_law_mate"]
theorem scPg : FnScope nPg ["_law_feed", "_law_most"] (defScope (topS 26)) := ⟨rfl, rfl, rfl, by decide +kernel, rfl, by decide +kernel, by decide +kernel⟩
def fees9 : List Int := [1, 1, 1, 2, 3, 9, 10, 12, 10 ^ (59 : Int).toNat]
def feesAll : List Int := [1, 2, 3, 9, 10, 12, 99, 100, 12345678901, 10 ^ (59 : Int).toNat, 10 ^ (60 : Int).toNat - 1]
theorem fees9_all : ∀ i ∈ fees9, i ∈ feesAll := by decide +kernel
theorem feesAll_ok : ∀ i ∈ feesAll, i.natAbs < 10 ^ 60 := by decide +kernel
def Ent.nice (e : Ent) : Prop := e.name ∈ names ∧ e.fee ∈ feesAll ∧ (∀ s ∈ e.row, s ∈ names) ∧ Asc e.row
def spPg (K : PySem.W.Frag) : Sp := fun vs H Q _ => ∃ (f a : Addr) (ns : List Int) (c : Nat) (m : Int), vs = [.ref f, .int m] ∧ 0 < m ∧ m ≤ 5 ∧ Fd f a ns H c ∧ c < 80000 ∧
  ∀ (v : V) (g : Pg) (H' : Hp), PgAt K H' v g → g.ok → (∀ e ∈ g.es, e.nice) → Asc (g.es.map (·.name)) → (∀ e ∈ g.es, (e.has = true → e.name ≠ g.asks) ∧ e.row.Sublist (g.es.map (·.name))) → g.asks ∈ g.es.map (·.name) → 0 < g.es.length → g.es.length ≤ 5 → Keep f H H' → Fd f a ns H' (c + 60) → Q v H'
theorem ne_free {f a p : Addr} {ns : List Int} {H G : Hp} {c : Nat} (d : Fd f a ns G c) (k : Keep f H G) (n : G p = none) : H p = none := by
  cases e : H p with
  | none => rfl
  | some o =>
    by_cases hpf : p = f
    · subst hpf
      exact absurd rfl (d.free n).1
    · have := k _ _ hpf e
      rw [n] at this
      cases this
theorem fees9_ok : ∀ i ∈ fees9, i.natAbs < 10 ^ 60 := by decide +kernel
section
variable {P : Program} {w : World} {K : PySem.W.Frag} {mg : Str → Option Value} {base : Heap}
theorem ok_pg {g gD gA gL : Addr} {fd fdD fdA fdL : FuncData} (F : Fun K "_law_page" "_law_page" (topS 26) g fd)
    (FL : Fun K "_law_labels" "_law_labels" (topS 25) gL fdL) (bL : Binds K fdL ["_law_feed", "_law_many"] []) (mL : mg "_law_labels" = some (.ref gL))
    (FA : Fun K "_law_any" "_law_any" (topS 24) gA fdA) (bA : Binds K fdA ["_law_feed", "_law_some"] []) (mA : mg "_law_any" = some (.ref gA))
    (FD : Fun K "_law_draw" "_law_draw" (topS 23) gD fdD) (bD : Binds K fdD ["_law_feed", "_law_many"] []) (mD : mg "_law_draw" = some (.ref gD)) (mi : mg "int" = none) (ml : mg "len" = none) (mr : mg "range" = none) (mo : mg "sorted" = none) (mt : mg "tuple" = none) :
    FnOk P w K mg base CX0 4 g fd ["_law_feed", "_law_most"] (spPg K) := by
  have GD : FnOk P w K mg base CX0 1 gD fdD ["_law_feed", "_law_many"] spDraw := ok_draw FD mi ml
  have GA : FnOk P w K mg base CX0 2 gA fdA ["_law_feed", "_law_some"] (spAny K) := ok_any FA FD bD mD mi ml
  have GL : FnOk P w K mg base CX0 3 gL fdL ["_law_feed", "_law_many"] spLab := ok_lab FL FA bA mA FD bD mD mi ml mr mo
  refine F.ok scPg (fun vs H Q E h => ?_) (fun cdv A outer s H vs Q E hr h => ?_)
  · obtain ⟨f, a, ns, c, m, rfl, _⟩ := h
    rfl
  · obtain ⟨f, a, ns, c, m, rfl, m0, m1, fd0, hc, q⟩ := h
    have hr1 : Room 1 _ := hr.mono (by decide)
    have hr2 : Room 2 _ := hr.mono (by decide)
    refine ⟨_, pss_cons (ps_set (i := 2) scPg.nd rfl (.inl rfl) (pe_call GL hr (by rfl) mL FL.kp bL .nil pass0 (pa_cons (pv 0) (pa_cons (pe_op op_add pe_int (pe_call GD hr1 (by rfl) mD FD.kp bD .nil pass0 (pa_cons (pv 0) (pa_cons (pv 1) pa_nil)))) pa_nil))))
      (pss_cons (ps_par (i := 3) (j := 4) (by rfl) scPg.nd rfl rfl (by decide) rfl rfl (pa_cons (pe_call GA hr2 (by rfl) mA FA.kp bA .nil pass0 (pa_cons (pv 0) (pa_cons (pv 2) pa_nil))) (pa_cons (pe_lst pa_nil) pa_nil)) (by rfl))
      (pss_cons (ps_for PassesOwn.never rfl (pi_list (pv 2)) (pg_name (i := 5) scPg.nd rfl (.inl rfl))
        (pss_cons (ps_set (i := 6) scPg.nd rfl (.inl rfl) (pe_and (pe_cmpR op_eq (pe_call GD hr1 (by rfl) mD FD.kp bD .nil pass0 (pa_cons (pv 0) (pa_cons pe_int pa_nil))) pe_int (nomark _)) (pe_one (pe_cmpR op_ne (pv 5) (pv 3) (nomark _)))))
        (pss_cons (ps_setLc (i := 7) (own := [("_law_mate", 8)]) (g := gName 8) (by rfl) scPg.nd rfl rfl (sw_true rfl rfl rfl (by decide +kernel)) (pi_list (pv 2)) (blkOk_by (own := [("_law_mate", 8)]) (N := nPg) (sc := defScope (topS 26)) (by decide +kernel))
          (fun _ _ _ _ _ => pg_name (i := 8) scPg.nd rfl (Or.inl rfl)) (fun _ _ _ _ _ => pts_one (pt_cmpR op_eq (pe_call GD hr1 (by rfl) mD FD.kp bD .nil pass0 (pa_cons (pv 0) (pa_cons pe_int pa_nil))) pe_int (nomark _))) (fun _ _ _ _ _ => pv 8))
        (pss_one (ps_expr (pe_bm PySem.F.plainAttrs_list PySem.F.slot_list_append PySem.F.type_list_append mt_append (pv 4) (pa_cons (pe_tup (pa_cons (pv 5)
          (pa_cons (pe_call GA hr2 (by rfl) mA FA.kp bA .nil pass0 (pa_cons (pv 0) (pa_cons (pe_lst (pa_cons pe_int (pa_cons pe_int (pa_cons pe_int (pa_cons pe_int (pa_cons pe_int (pa_cons pe_int (pa_cons pe_int (pa_cons pe_int (pa_cons (pe_op op_pow pe_int pe_int) pa_nil)))))))))) pa_nil)))
          (pa_cons (pv 6) (pa_cons (pe_callTy call_tuple_of (by rfl) mt boot_tuple (pa_cons (pv 7) pa_nil)) pa_nil))))) pa_nil)))))))
      (pss_one (ps_ret (pe_tup (pa_cons (pe_callTy call_tuple_of (by rfl) mt boot_tuple (pa_cons (pv 4) pa_nil)) (pa_cons (pv 3) pa_nil))))))), ?_⟩
    -- the labels
    refine ⟨.ref f, rfl, .ref f, rfl, _, rfl, f, a, ns, c, m, rfl, m0, by omega, fd0, by omega, fun r H1 r0 r1 k1 fd1 => ⟨1, r, rfl, rfl, ?_⟩⟩
    obtain ⟨j, rfl⟩ := Int.eq_ofNat_of_zero_le r0
    refine ⟨f, a, ns, c + 1, 1 + j, ?_, by omega, fd1, by omega, fun ys L H2 nL eL lL hL ascL k2 fd2 => ?_⟩
    · show [V.ref f, V.int (1 + (j : Int))] = [V.ref f, V.int ((1 + j : Nat) : Int)]
      rw [Int.natCast_add]
      rfl
    -- who asks
    refine ⟨.ref f, rfl, .ref L, rfl, f, a, L, ns, c + 4, ys.map V.str, rfl, fd2, by omega, .inl (.inl eL), by rw [List.length_map]; omega, by rw [List.length_map]; omega, fun x H3 hx k3 fd3 => ⟨Nat.zero_le _, fun En nEn => ?_⟩⟩
    obtain ⟨asks, hasks, rfl⟩ := List.mem_map.mp hx
    refine ⟨_, _, rfl, ?_⟩
    have kA : Keep f H (upd H3 En (.lst [])) := ((k1.trans k2).trans k3).trans (keep_same (same_new nEn))
    have fdA : Fd f a ns (upd H3 En (.lst [])) (c + 5) := fd3.same (same_new nEn)
    have eL3 := k3 _ _ (fd_ne fd2 eL) eL
    have eLA : (upd H3 En (.lst [])) L = some (.lst (ys.map V.str)) := same_new nEn _ _ eL3
    have nEL : En ≠ L := (ne_of_none eL3 nEn).symm
    have eEn : (upd H3 En (.lst [])) En = some (.lst []) := upd_same
    have nfa := fd3.free nEn
    have n0E : H En = none := ne_free fd3 ((k1.trans k2).trans k3) nEn
    generalize upd H3 En (.lst []) = H4 at kA fdA eLA eEn ⊢
    -- the loop
    refine ⟨_, rfl, L, rfl, ⟨_, .inl (.inl eLA)⟩, for_list (K := K) (a := L) (xs := ys.map V.str) (fun i σ G => ∃ y5 y6 y7 y8, σ = [some (.ref f), some (.int m), some (.ref L), some (.str asks), some (.ref En), y5, y6, y7, y8] ∧ Keep f H G ∧ Fd f a ns G (c + 5 + 7 * i) ∧
      G L = some (.lst (ys.map V.str)) ∧ ∃ ws es, G En = some (.lst ws) ∧ EntsAt K G ws es ∧ es.length = i ∧ (∀ e ∈ es, e.ok ∧ e.nice) ∧ es.map (·.name) = ys.take i ∧ ∀ e ∈ es, (e.has = true → e.name ≠ asks) ∧ e.row.Sublist ys)
      ⟨none, none, none, none, rfl, kA, fdA, eLA, [], [], eEn, .nil, rfl, (fun e he => by cases he), rfl, (fun e he => by cases he)⟩ (fun i σ G _ ⟨_, _, _, _, _, _, _, h, _⟩ => .inl (.inl h)) ?_ ?_⟩
    · rintro i x σ G hx ⟨y5, y6, y7, y8, rfl, kG, fdG, eLG, ws, es, eEG, hE, lE, okE, nE, aE⟩
      have hi : i < (ys.map V.str).length := (List.getElem?_eq_some_iff.mp hx).1
      rw [List.length_map] at hi
      obtain ⟨y, hy, rfl⟩ := map_get hx
      have hyn := hL y (List.mem_of_getElem? hy)
      refine ⟨.ref f, rfl, f, a, ns, _, 3, rfl, by decide, by decide, fdG, by omega, fun r5 G5 _ _ k5 fd5 => ⟨rfl, _, rfl, ite2 (fun _ => ?_) (fun _ => ?_)⟩⟩
      case' refine_1 =>
        refine ⟨_, rfl, _, rfl, rfl, ?_⟩
        have hne : (!decide (V.str y = V.str asks)) = true → y ≠ asks := fun z w => by
          rw [decide_eq_true (congrArg V.str w)] at z
          cases z
        generalize (!decide (V.str y = V.str asks)) = hb at hne ⊢
      case' refine_2 =>
        show Ends.nx _ (List.set _ 6 (some (V.bl (false && true)))) _
        have hne : (false && true) = true → y ≠ asks := fun z => by cases z
        generalize (false && true) = hb at hne ⊢
      all_goals
        have e5L := k5 _ _ (fd_ne fdG eLG) eLG
        have e5E := k5 _ _ (fd_ne fdG eEG) eEG
        have hE5 := hE.ts (ts_fd fdG k5)
        dsimp only
        refine seq_asg ?_
        refine ⟨.ref L, rfl, L, rfl, ⟨_, .inl (.inl e5L)⟩, fun D nD => ?_⟩
        have nDf := fd5.free nD
        have nDE : En ≠ D := ne_of_none e5E nD
        refine lc_list (K := K) (a := L) (xs := ys.map V.str) (fun k G6 => Keep f G5 G6 ∧ Fd f a ns G6 (c + 6 + 7 * i + k) ∧ ∃ zs : List Str, G6 D = some (.lst (zs.map V.str)) ∧ zs.Sublist (ys.take k))
          ⟨keep_same (same_new nD), (fd5.same (same_new nD)).more (by omega), [], upd_same, List.nil_sublist _⟩ (fun k G6 _ h => .inl (.inl (h.1 _ _ (fd_ne fd5 e5L) e5L))) ?_ ?_
        · rintro k v G6 hv ⟨k6, fd6, zs, eD, sz⟩
          have lz : zs.length ≤ k := Nat.le_trans sz.length_le (by rw [List.length_take]; exact Nat.min_le_left _ _)
          have hk : k < (ys.map V.str).length := (List.getElem?_eq_some_iff.mp hv).1
          rw [List.length_map] at hk
          obtain ⟨z, hzy, rfl⟩ := map_get hv
          refine ⟨rfl, ?_⟩
          refine ⟨.ref f, rfl, f, a, ns, _, 3, rfl, by decide, by decide, fd6, by omega, fun r7 G7 _ _ k7 fd7 => ⟨rfl, _, rfl, ?_⟩⟩
          have e7D := k7 _ _ (fd_ne fd6 eD) eD
          have k57 : Keep f G5 G7 := k6.trans k7
          refine ite2 (fun _ => ?_) (fun _ => ?_)
          · refine ⟨_, rfl, zs.map V.str, e7D, by rw [List.length_map]; exact small' (by omega), fun b o nb hb => ?_, (fd7.own nDf.1 nDf.2).more (by omega), zs ++ [z], ?_, ?_⟩
            · rw [upd_ne (ne_of_none hb nD)]
              exact k57 b o nb hb
            · rw [upd_same, List.map_append]
              rfl
            · rw [List.take_add_one, hzy]
              exact sz.append (List.Sublist.refl _)
          · refine ⟨k57, fd7.more (by omega), zs, e7D, ?_⟩
            rw [List.take_add_one]
            exact sz.trans (List.sublist_append_left _ _)
        · rintro G6 ⟨k6, fd6, zs, eD, sz⟩
          rw [List.length_map] at fd6 sz
          rw [List.take_length] at sz
          have lz : zs.length ≤ ys.length := sz.length_le
          have hz : ∀ z ∈ zs, z ∈ names := fun z h => hL z (sz.subset h)
          have e6E := k6 _ _ (fd_ne fd5 e5E) e5E
          have e6L := k6 _ _ (fd_ne fd5 e5L) e5L
          have hE6 := hE5.ts (ts_fd fd5 k6)
          -- entries.append
          refine ⟨.ref En, rfl, .inl ⟨rfl, _, .inl (.inl e6E)⟩, _, rfl, .ref f, rfl, 10, 59, rfl, rfl, ⟨by decide, by decide, by decide⟩, (show 9 ≤ sizeLine by decide), fun pl npl => ?_⟩
          refine ⟨f, a, pl, ns, c + 11 + 7 * i, fees9.map V.int, rfl, (fd6.same (same_new npl)).more (by omega), by omega, .inl (.inl upd_same), (show 0 < 9 by decide), (show 9 ≤ 1000 by decide), fun x7 G7 hx7 k7 fd7 => ?_⟩
          obtain ⟨fee, hfee, rfl⟩ := List.mem_map.mp hx7
          have fd6p := fd6.same (same_new (o := .lst (fees9.map V.int)) npl)
          have e6pE := same_new (o := .lst (fees9.map V.int)) npl _ _ e6E
          have e7E := k7 _ _ (fd_ne fd6p e6pE) e6pE
          have e6pL := same_new (o := .lst (fees9.map V.int)) npl _ _ e6L
          have e7L := k7 _ _ (fd_ne fd6p e6pL) e6pL
          have e6pD := same_new (o := .lst (fees9.map V.int)) npl _ _ eD
          have e7D := k7 _ _ (fd_ne fd6p e6pD) e6pD
          have hE7 := hE6.ts ((ts_same (same_new npl)).trans (ts_fd fd6p k7))
          have kk7 : Keep f H G7 := (((kG.trans k5).trans k6).trans (keep_same (same_new npl))).trans k7
          refine ⟨_, rfl, _, rfl, D, zs.map V.str, rfl, .inl ⟨.inl (.inl e7D), fun tr ntr => ⟨(show 4 ≤ sizeLine by decide), fun tp ntp => ?_⟩⟩⟩
          have sR : Same G7 (upd G7 tr (.tup (zs.map V.str))) := same_new ntr
          have sP : Same _ (upd (upd G7 tr (.tup (zs.map V.str))) tp (.tup [.str y, .int fee, .bl hb, .ref tr])) := same_new ntp
          have eR := sP _ _ (upd_same (H := G7) (a := tr) (o := .tup (zs.map V.str)))
          have eP : (upd (upd G7 tr (.tup (zs.map V.str))) tp (.tup [.str y, .int fee, .bl hb, .ref tr])) tp = some (.tup [.str y, .int fee, .bl hb, .ref tr]) := upd_same
          have sm := sR.trans sP
          generalize upd (upd G7 tr (.tup (zs.map V.str))) tp (.tup [.str y, .int fee, .bl hb, .ref tr]) = G8 at sm eR eP ⊢
          have e8E := sm _ _ e7E
          have e8L := sm _ _ e7L
          refine ⟨En, ws, _, rfl, rfl, e8E, by rw [hE.len]; exact small' (by omega), ?_⟩
          refine ⟨_, _, _, _, rfl, fun b o nb hb' => ?_, ((fd7.same sm).own nfa.1 nfa.2).more (by omega), ?_, ws ++ [.ref tp], es ++ [⟨y, fee, hb, zs⟩], upd_same, ?_, ?_, ?_, ?_, ?_⟩
          · rw [upd_ne (ne_of_none hb' n0E)]
            exact sm _ _ (kk7 b o nb hb')
          · rw [upd_ne nEL.symm]
            exact e8L
          · refine (hE7.ts ((ts_same sm).trans (ts_lst e8E))).append (.cons ⟨tp, tr, rfl, ?_, ?_⟩ .nil)
            · exact tupT (ts_lst e8E) (.inl (.inl eP))
            · exact tupT (ts_lst e8E) (.inl (.inl eR))
          · rw [List.length_append, lE]
            rfl
          · intro e he
            rcases List.mem_append.mp he with h | h
            · exact okE e h
            · rw [List.mem_singleton.mp h]
              exact ⟨⟨names_fit y hyn, fees9_ok fee hfee, by show zs.length ≤ 8; omega, fun z hz' => names_fit z (hz z hz')⟩, hyn, fees9_all fee hfee, hz, ascL.sublist sz⟩
          · rw [List.map_append, nE, List.take_add_one, hy]
            rfl
          · intro e he
            rcases List.mem_append.mp he with h | h
            · exact aE e h
            · rw [List.mem_singleton.mp h]
              exact ⟨hne, sz⟩
    · rintro σ G ⟨y5, y6, y7, y8, rfl, kG, fdG, eLG, ws, es, eEG, hE, lE, okE, nE, aE⟩
      rw [List.length_map] at lE fdG
      refine ⟨.ref En, rfl, En, ws, rfl, .inl ⟨.inl (.inl eEG), fun te nte => ⟨_, rfl, (show 2 ≤ sizeLine by decide), fun tp ntp => ?_⟩⟩⟩
      have sR : Same G (upd G te (.tup ws)) := same_new nte
      have sP : Same _ (upd (upd G te (.tup ws)) tp (.tup [.ref te, .str asks])) := same_new ntp
      have sm := sR.trans sP
      exact q (.ref tp) ⟨es, asks⟩ _ ⟨tp, te, ws, rfl, .inl (.inl upd_same), .inl (.inl (sP _ _ upd_same)), hE.same sm⟩ ⟨by show es.length ≤ 12; omega, (fun e he => (okE e he).1), names_fit asks (hL asks hasks)⟩ (fun e he => (okE e he).2) (by show Asc (es.map (·.name)); rw [nE, List.length_map, List.take_length]; exact ascL) (fun e he => ⟨(aE e he).1, by show e.row.Sublist (es.map (·.name)); rw [nE, List.length_map, List.take_length]; exact (aE e he).2⟩) (by show asks ∈ es.map (·.name); rw [nE, List.length_map, List.take_length]; exact hasks) (by show 0 < es.length; omega) (by show es.length ≤ 5; omega) (kG.trans (keep_same sm)) ((fdG.same sm).more (by omega))
end
end Kn


/-! Kn: a def that gets the error which is being handled. -/
namespace Kn
open PySem PySem.Spec PyProof.Rows L2
abbrev ESp := Addr → Value → Option Addr → Sp
section
variable (P : Program) (w : World) (K : PySem.W.Frag) (mg : Str → Option Value) (base : Heap)
structure Handed (k : Nat) (f : Addr) (fd : FuncData) (ps : List Str) (sp : ESp) : Prop where
  many : ∀ a c d vs H Q E, sp a c d vs H Q E → vs.length = ps.length
  goes : ∀ (A : Around) (fr : List Env) (s : Shared) (H : Hp) (g : Args) (us : List Value) (vs : List V) (Q : VK) (E : XK) (p : Addr × Obj) (c : Value) (d : Option Addr), L2H.RoomH k A → A.handled = some (.ref p.1) → Zc c d p.2 → (∃ v, p.2.data = .fields v) →
    L2H.PinOk fr H s p → Env0 P w K mg base A fr s H → BindsTo s fd g (ps.zip us) → Vals vs us → sp p.1 c d vs H Q E → codeAny (model P w) A (.call (.ref f) g) (CR CX0 fr P w H s Q E) s
end
section
variable {P : Program} {w : World} {K : PySem.W.Frag} {mg : Str → Option Value} {base : Heap} {k : Nat} {f : Addr} {fd : FuncData} {ps N : List Str} {sp : ESp} {x qual : Str} {st : Stmt}
theorem mark_same {A : Around} {env : Env} {a : Addr} (h : A.handled = some (.ref a)) : (A.deeper env).mark (some (.ref a)) = A.deeper env := by
  obtain ⟨h1, d, fr, g, u⟩ := A
  cases h
  rfl
theorem Handed.body (F : Fun K x qual st f fd) (S : FnScope N ps (defScope st)) (many : ∀ a c d vs H Q E, sp a c d vs H Q E → vs.length = ps.length)
    (hb : ∀ (cdv : Value) (A : Around) (fr : List Env) (s : Shared) (H : Hp) (vs : List V) (Q : VK) (E : XK) (p : Addr × Obj) (c : Value) (d : Option Addr), Zc c d p.2 → (∃ v, p.2.data = .fields v) → L2H.RoomH k (A.deeper (envOfC qual (defScope st) s.heap.objs.size f cdv)) → sp p.1 c d vs H Q E →
      ∃ t, PSs ((cxOf CX0 P w K mg base N qual (defScope st) f cdv A fr s H E).suite p.1 [(p.1, p.2)]) (defBody st) t ∧ t { nx := fun _ H' => Q .non H', rt := Q } (start N vs) H) :
    Handed P w K mg base (k + 1) f fd ps sp := by
  obtain ⟨oc, od, kV, doc, pm, an, cdv, ct, osl, rfl, look, cdOk⟩ := F.ex
  refine ⟨many, fun A fr s H g us vs Q E p c d room hot hz hf pin z bound rv told => ?_⟩
  have held : ∀ b o, base.get? b = some o → s.heap.get? b = some o := fun b o y => (z.bs b o y).1
  have KS : K.In s.heap := z.mod.kin.keeps held
  have parL : ∀ y ∈ ps.zip us, (defScope st).names.lookup y.1 = some .local ∨ ((defScope st).names.lookup y.1 = some .cell ∧ ((cellsFrom (s.heap.objs.size + 1) (defScope st).names []).lookup y.1).isSome = true) := by
    rintro ⟨n, v⟩ hy
    cases S.par n (List.of_mem_zip hy).1 with
    | inl q => exact .inl q
    | inr q => exact .inr ⟨q, PySem.W.cellsFrom_some _ _ _ (.inl q)⟩
  refine codeAny_call_function room.depth (KS _ _ look) rfl S.co S.gen rfl (PySem.W.codeRec_of KS cdOk) (bound _ _ _ _ ?_)
  refine wpAny_newFunctionEnv_cells S.kind parL ?_
  rintro env rfl s1 y
  refine ⟨(z.mod.nolimit.keeps held).keeps y.toInCall.keep, codeAny_func ?_⟩
  obtain ⟨t, ht, ends⟩ := hb cdv A fr s H vs Q E p c d hz hf (room.deeper _) told
  have I := L2H.inv_startH (CX := CX0) (P := P) (mg := mg) (E := E) S pin z (many _ _ _ _ _ _ _ told) rv y
  have ec : (cxOf CX0 P w K mg base N qual (defScope st) f cdv A fr s H E).suite p.1 [(p.1, p.2)] = (L2H.cxH CX0 P w K mg base N qual (defScope st) f cdv A fr s H E p).nox := by
    have em := mark_same (env := envOfC qual (defScope st) s.heap.objs.size f cdv) hot
    show ({ cxOf CX0 P w K mg base N qual (defScope st) f cdv A fr s H E with A := (A.deeper (envOfC qual (defScope st) s.heap.objs.size f cdv)).mark (some (.ref p.1)), calm := false, pn := [(p.1, p.2)], xe := fun _ _ => False } : Cx) = _
    rw [em]
    rfl
  rw [ec] at ht
  refine wpAny_mono (ht.nox.run [] s1 (start N vs) H _ I ends) ?_ (fun _ _ q => q)
  intro fl s2 hs
  cases fl with
  | ret u => obtain ⟨v, σ2, H2, J, r2, q⟩ := hs; exact ⟨v, H2, J.os, J.bare, J.base, J.hok, r2, q⟩
  | next => obtain ⟨σ2, H2, J, q⟩ := hs; exact ⟨V.non, H2, J.os, J.bare, J.base, J.hok, rfl, q⟩
  | brk => obtain ⟨_, _, _, q⟩ := hs; exact q.elim
  | cont => obtain ⟨_, _, _, q⟩ := hs; exact q.elim
end
section
variable {X : Cx} {k : Nat} {f : Addr} {fd : FuncData} {ps : List Str} {sp : ESp} {x : Str} {p pos : Pos} {e : Expr} {es : List Expr} {t : TA} {a : Addr} {oe : Obj} {c : Value} {d : Option Addr} {pn : List (Addr × Obj)}
/-- f(err, ..) within the suite that handles err -/
theorem pe_hand (F : Handed X.prog X.w X.K X.mg X.base k f fd ps sp) (hr : L2H.RoomH k X.A) (hz : Zc c d oe) (hf : ∃ v, oe.data = .fields v) (hg : Gl X x) (hm : X.mg x = some (.ref f)) (hk : PySem.W.keepIn X.K (.ref f) = true) (hb : Binds X.K fd ps [])
    (ha : PA (X.suite a ((a, oe) :: pn)) (e :: es) t) (hdb : (x == ("__debug__" : Str)) = false := by decide) (he : starEach (e :: es) X.env = (false, eval e X.env) :: starEach es X.env := by rfl) (hpl : (backTo pos (starEach es X.env)).any (·.1) = false := by rfl) :
    PE (X.suite a ((a, oe) :: pn)) (.Call (.Name x p) (e :: es) [] pos) (tCall (sp a c d) [] E0 t) := by
  refine ⟨fun pins s σ H Q I told => wpAny_Call_Name_kw (ld_glob I hg hm ?_ hdb)⟩
  refine PySem.W.callWith_K (h₀ := X.base) I.ok.mod.kin hk (thn (ha.run pos pins s σ H _ I told) ?_) he hpl
  rintro us s1 ⟨vs, H1, I1, rv, q⟩
  refine ⟨I1.kIn, ?_⟩
  have q : sp a c d (vs ++ []) H1 Q E0 := q
  rw [List.append_nil] at q
  have hl : (us ++ []).length = ps.length := by rw [List.append_nil, ← rv.length]; exact F.many _ _ _ _ _ _ _ q
  have hb1 := hb s1 us I1.kIn hl
  rw [List.append_nil] at hb1
  have at_ := I1.pin (a, oe) (List.mem_append_left _ List.mem_cons_self)
  have pin : L2H.PinOk X.stack H1 s1 (a, oe) := by
    refine ⟨at_.1, at_.2.1, fun hm => ?_, at_.2.2.2.2⟩
    rcases List.mem_cons.mp (I1.stkSub a hm) with z | z
    · exact at_.2.2.1 z
    · exact at_.2.2.2.1 z
  refine wpAny_call (codeAny_mono (F.goes (X.A.mark (some (.ref a))) X.stack s1 H1 ⟨us, []⟩ us vs Q E0 (a, oe) c d ⟨hr.dp, hr.un⟩ rfl hz hf pin I1.env0 hb1 rv q) ?_)
  intro r s2 out
  cases r with
  | error _ => exact False.elim out
  | ok fl =>
    cases fl with
    | ret u => exact I1.after out
    | next => exact False.elim out
    | brk => exact False.elim out
    | cont => exact False.elim out
end
end Kn


/-! Kn: isinstance of a handled error with fields; how many of a list's bools are k. -/
namespace Kn
open PySem PySem.Spec PyProof.Rows L2
/-- what isinstance reads off an error's class -/
structure IsC (K : PySem.W.Frag) (D : Addr) : Prop where
  c : (PySem.W.clsIn K D).isSome = true
  ga : PySem.W.findIn K (.ref D) "__getattribute__" = some (some (.builtin "BaseException.__getattribute__"))
  gg : PySem.W.findIn K (.ref D) "__getattr__" = some none
  ex : PySem.W.subIn K (.ref D) (.type "BaseException") = some true
  ha : PySem.W.findIn K (.ref D) "__class__" = some (some (.builtin "object.__class__"))
  hn : PySem.W.specialIn K (.builtin "object.__class__") "__get__" = some (some (.builtin "getset_descriptor.__get__"))
  ht : PySem.W.takesIn K (.builtin "object.__class__") = some true
  hm : PySem.W.mroIn K D (.type "object") = some true
def rIsF (K : PySem.W.Frag) (D : Addr) (d : Option Addr) (a : Addr) : List V → Hp → VK → Prop := fun xs H Q =>
  ∃ (c : V) (cv : Value) (b : Bool) (dd : Addr) (fs : List (Str × V)), xs = [.ref a, c] ∧ (∀ u, RelV c u → u = cv) ∧ PySem.W.kitOne K (.ref D) cv = some b ∧ d = some dd ∧ H dd = some (.xd fs) ∧ Q (.bl b) H
section
variable {X : Cx}
theorem call_isF {a D : Addr} {d : Option Addr} {oe : Obj} {pn : List (Addr × Obj)} (C : IsC X.K D) (hz : Zc (.ref D) d oe) (hf : ∃ v, oe.data = .fields v) : CallR (X.suite a ((a, oe) :: pn)) (.builtin "isinstance") (rIsF X.K D d a) := by
  rintro pins s σ H xs us Q I rv ⟨c, cv, b, dd, fs, rfl, only, kit, rfl, hd, q⟩
  cases rv with
  | cons r1 rest =>
    cases rest with
    | cons r2 rest =>
      cases rest
      cases r1
      cases only _ r2
      have at_ := (I.pin (a, oe) (List.mem_append_left _ List.mem_cons_self)).1
      obtain ⟨v, dv⟩ := hf
      obtain ⟨m, nsd, _⟩ := (I.hok dd _ hd : ∃ m, s.heap.Ns1 dd m ∧ ∀ f, RelO (fs.lookup f) (m f))
      obtain ⟨od, hod, _⟩ := lookIn_ns nsd
      have inst : PySem.W.InstAt s.heap a oe D (some od) := by
        refine ⟨at_, hz.1, ?_, ?_⟩
        · unfold PySem.W.notCls
          rw [dv] <;> rfl
        · rw [hz.2]
          exact hod
      exact PySem.W.kia_one (PySem.W.kitx_exc C.c C.ga C.gg C.ex C.ha C.hn C.ht C.hm) I.kIn inst kit (fun z => nomatch z) fun tk => ⟨.bl b, H, I.kept (t' := tk) fun _ _ z => z, rfl, q⟩
def rCntB (K : PySem.W.Frag) : V → List V → Hp → VK → Prop := fun x xs H Q => ∃ (p : Addr) (bs : List Bool) (k : Bool), x = .ref p ∧ xs = [.bl k] ∧ SqL K H p (bs.map V.bl) ∧ Q (.int (bs.count k : Nat)) H
theorem bools_of {bs : List Bool} {its : List Value} (h : Vals (bs.map V.bl) its) : its = bs.map Value.bool := by
  induction bs generalizing its with
  | nil => cases h; rfl
  | cons b r ih =>
    cases h with
    | cons r1 rr =>
      cases r1
      rw [ih rr]
      rfl
theorem mt_bcount : MtR X "list.count" (rCntB X.K) := by
  rintro pins s σ H x xs v us Q I rx rxs ⟨p, bs, k, rfl, rfl, hs, q⟩
  cases rx
  obtain ⟨u, rfl, ru⟩ := rxs.one
  cases ru
  obtain ⟨its, rv, ⟨⟨cls, dd, data, sl⟩, n, ho, hc, hdn, hd⟩, hlen⟩ := I.list hs
  dsimp only at hc hd
  subst hc hd
  have e := bools_of rv
  have ec : ∀ bs : List Bool, (bs.map Value.bool).countP (isBoolOf k) = bs.count k := fun bs => by
    induction bs with
    | nil => rfl
    | cons b r ih =>
      rw [List.map_cons, List.countP_cons, List.count_cons, ih]
      rfl
  refine call_meets PySem.F.slot_list_count ⟨_, ho, rfl⟩ PySem.F.entry_list_count (PySem.F.args_list_count_2 _ _) (PySem.SeqAt.list_countAt p its.toArray n dd sl (.bool k) (isBoolOf k)) ⟨ho, fun y hy => ?_, ?_⟩
  · have hy : y ∈ its := by simpa using hy
    rw [e] at hy
    obtain ⟨b, _, rfl⟩ := List.mem_map.mp hy
    exact PySem.SeqAt.EqAt.bool_bool b k
  · refine ⟨.int (bs.count k : Nat), H, I.tok _, ⟨s.toks, ?_⟩, q⟩
    show Value.int ((its.toArray.toList.countP (isBoolOf k) : Nat) : Int) s.toks = _
    have e2 : its.toArray.toList = bs.map Value.bool := e
    rw [e2, ec]
theorem pt_off {e : Expr} : PT X e (fun _ _ _ => False) := ⟨fun _ _ _ _ _ _ h => h.elim⟩
end
end Kn


namespace Kn
open PySem PySem.Spec PyProof.Rows L2
abbrev nRef : List Str := ["_law_error", "_law_families"]
theorem scRef : FnScope nRef ["_law_error"] (defScope (topS 29)) := ⟨rfl, rfl, rfl, by decide +kernel, rfl, by decide +kernel, by decide +kernel⟩
/-- what is known of the error classes: those names that the refusal asks for, seen from NotUsable -/
structure Asked (K : PySem.W.Frag) (mg : Str → Option Value) (x : Str) (D : Addr) (b : Bool) : Prop where
  ex : ∃ C : Addr, mg x = some (.ref C) ∧ PySem.W.kitOne K (.ref D) (.ref C) = some b
structure ErrN (K : PySem.W.Frag) (mg : Str → Option Value) (D : Addr) : Prop where
  is : IsC K D
  xf : XfC K D
  noW : PySem.W.findIn K (.ref D) "word" = some none
  noA : PySem.W.findIn K (.ref D) "at" = some none
  paper : Asked K mg "PaperError" D false
  web : Asked K mg "WebError" D true
  live : Asked K mg "LiveError" D false
  text : Asked K mg "TextError" D false
  use : Asked K mg "NotUsable" D true
  missed : Asked K mg "Missed" D false
  val : PySem.W.kitOne K (.ref D) (.type "ValueError") = some true
def spRef (K : PySem.W.Frag) (D : Addr) : ESp := fun a c d vs H Q _ => ∃ (dd : Addr) (w t : V), vs = [.ref a] ∧ c = .ref D ∧ d = some dd ∧ H dd = some (.xd [("at", t), ("word", w)]) ∧
  ∀ (p : Addr) (H' : Hp), Same H H' → H p = none → H' p = some (.tup [.str "no", .str "use", w, t]) → Q (.ref p) H'
section
variable {P : Program} {w : World} {K : PySem.W.Frag} {mg : Str → Option Value} {base : Heap}
theorem ok_ref {g D : Addr} {fd : FuncData} (F : Fun K "_law_refusal" "_law_refusal" (topS 29) g fd) (T : ErrN K mg D) (mi : mg "isinstance" = none) (mv : mg "ValueError" = none) : Handed P w K mg base 1 g fd ["_law_error"] (spRef K D) := by
  refine Handed.body F scRef (fun a c d vs H Q E h => ?_) (fun cdv A fr s H vs Q E p c d hz hf hr h => ?_)
  · obtain ⟨dd, w, t, rfl, _⟩ := h
    rfl
  · obtain ⟨dd, wv, t, rfl, rfl, rfl, hd, q⟩ := h
    obtain ⟨C1, g1, k1⟩ := T.paper.ex
    obtain ⟨C2, g2, k2⟩ := T.web.ex
    obtain ⟨C3, g3, k3⟩ := T.live.ex
    obtain ⟨C4, g4, k4⟩ := T.text.ex
    obtain ⟨C5, g5, k5⟩ := T.use.ex
    obtain ⟨C6, g6, k6⟩ := T.missed.ex
    have ci := fun {X : Cx} (e : X.K = K) => call_isF (X := X) (a := p.1) (D := D) (d := some dd) (oe := p.2) (pn := []) (by rw [e]; exact T.is) hz hf
    refine ⟨_, pss_cons (ps_set (i := 1) scRef.nd rfl (.inl rfl) (pe_lst (pa_cons (pe_callB (ci rfl) (by rfl) mi boot_isinstance (pa_cons (pv 0) (pa_cons (pe_glob (v := .ref C1) rfl g1 rfl) pa_nil)))
        (pa_cons (pe_callB (ci rfl) (by rfl) mi boot_isinstance (pa_cons (pv 0) (pa_cons (pe_glob (v := .ref C2) rfl g2 rfl) pa_nil)))
        (pa_cons (pe_callB (ci rfl) (by rfl) mi boot_isinstance (pa_cons (pv 0) (pa_cons (pe_glob (v := .ref C3) rfl g3 rfl) pa_nil))) pa_nil)))))
      (pss_cons (ps_expr (pe_bm PySem.F.plainAttrs_list PySem.F.slot_list_append PySem.F.type_list_append mt_append (pv 1) (pa_cons (pe_callB (ci rfl) (by rfl) mi boot_isinstance (pa_cons (pv 0) (pa_cons (pe_glob (v := .ref C4) rfl g4 rfl) pa_nil))) pa_nil)))
      (pss_cons (ps_if (PW.pt (pw_or (pt_cmpR op_ne (pe_bm PySem.F.plainAttrs_list PySem.F.slot_list_count PySem.F.type_list_count mt_bcount (pv 1) (pa_cons pe_bl pa_nil)) pe_int (nomark _))
          (pw_or1 (pt_not (pt_val (pe_callB (ci rfl) (by rfl) mi boot_isinstance (pa_cons (pv 0) (pa_cons (pe_bltn (v := .ty "ValueError") rfl mv PyProof.Rows.Boot.«ValueError» rfl) pa_nil)))))))) (pss_one ps_never) pss_nil)
      (pss_cons (ps_if (PW.pt (pw_and (pt_val (pe_ix (r := rIxL K) ix_list (pv 1) pe_int (fun _ _ => rfl))) (pw_and1 pt_off))) (pss_one ps_never) pss_nil)
      (pss_cons (ps_if (PW.pt (pw_and (pt_val (pe_ix (r := rIxL K) ix_list (pv 1) pe_int (fun _ _ => rfl))) (pw_and (pt_val (pe_callB (ci rfl) (by rfl) mi boot_isinstance (pa_cons (pv 0) (pa_cons (pe_glob (v := .ref C5) rfl g5 rfl) pa_nil))))
          (pw_and1 (pt_not (pt_val (pe_callB (ci rfl) (by rfl) mi boot_isinstance (pa_cons (pv 0) (pa_cons (pe_glob (v := .ref C6) rfl g6 rfl) pa_nil)))))))))
        (pss_one (ps_ret (pe_tup (pa_cons pe_str (pa_cons pe_str (pa_cons (pe_xf T.xf T.noW hz hf (pv 0)) (pa_cons (pe_xf T.xf T.noA hz hf (pv 0)) pa_nil))))))) pss_nil) pss_never)))), ?_⟩
    refine ⟨.ref p.1, rfl, .ref C1, .ref C1, false, dd, _, rfl, (fun _ r => r), k1, rfl, hd, .ref p.1, rfl, .ref C2, .ref C2, true, dd, _, rfl, (fun _ r => r), k2, rfl, hd, .ref p.1, rfl, .ref C3, .ref C3, false, dd, _, rfl, (fun _ r => r), k3, rfl, hd, (show 3 ≤ sizeLine by decide), fun L nL => ?_⟩
    have s1 : Same H (upd H L (.lst [.bl false, .bl true, .bl false])) := same_new nL
    have hd1 := s1 _ _ hd
    refine ⟨.ref L, rfl, .inl ⟨rfl, _, .inl (.inl upd_same)⟩, .ref p.1, rfl, .ref C4, .ref C4, false, dd, _, rfl, (fun _ r => r), k4, rfl, hd1, L, _, _, rfl, rfl, upd_same, (show 3 < sizeLine by decide), ?_⟩
    have s2 : Same H (upd (upd H L (.lst [.bl false, .bl true, .bl false])) L (.lst [.bl false, .bl true, .bl false, .bl false])) := putS s1 nL
    have eL : (upd (upd H L (.lst [.bl false, .bl true, .bl false])) L (.lst [.bl false, .bl true, .bl false, .bl false])) L = some (.lst [.bl false, .bl true, .bl false, .bl false]) := upd_same
    have hd2 := s2 _ _ hd
    show tSeq _ _ _ _ (upd (upd H L (.lst [.bl false, .bl true, .bl false])) L (.lst [.bl false, .bl true, .bl false, .bl false]))
    generalize upd (upd H L (.lst [.bl false, .bl true, .bl false])) L (.lst [.bl false, .bl true, .bl false, .bl false]) = G at s2 eL hd2 ⊢
    have at_ : ∀ {j : Nat} {v : V}, [V.bl false, V.bl true, V.bl false, V.bl false][j]? = some v → atI [V.bl false, V.bl true, V.bl false, V.bl false] (j : Int) = some v := fun h => atI_nat h
    refine ⟨.ref L, rfl, .inl ⟨rfl, _, .inl (.inl eL)⟩, L, [false, true, false, false], true, rfl, rfl, .inl (.inl eL), rfl, ?_⟩
    refine ⟨false, rfl, iteF ?_⟩
    refine ⟨.ref p.1, rfl, .ty "ValueError", .type "ValueError", true, dd, _, rfl, (fun _ r => r), T.val, rfl, hd2, true, rfl, iteF ?_⟩
    refine ⟨.ref L, rfl, L, _, 0, .bl false, rfl, rfl, .inl (.inl eL), at_ (j := 0) rfl, false, rfl, iteF (iteF ?_)⟩
    refine ⟨.ref L, rfl, L, _, 1, .bl true, rfl, rfl, .inl (.inl eL), at_ (j := 1) rfl, true, rfl, iteT ?_⟩
    refine ⟨.ref p.1, rfl, .ref C5, .ref C5, true, dd, _, rfl, (fun _ r => r), k5, rfl, hd2, true, rfl, iteT ?_⟩
    refine ⟨.ref p.1, rfl, .ref C6, .ref C6, false, dd, _, rfl, (fun _ r => r), k6, rfl, hd2, false, rfl, iteT ?_⟩
    refine ⟨.ref p.1, rfl, rfl, rfl, dd, _, wv, rfl, hd2, rfl, .ref p.1, rfl, rfl, rfl, dd, _, t, rfl, hd2, rfl, (show 4 ≤ sizeLine by decide), fun z nz => ?_⟩
    exact q z _ (putS s2 (s2.free nz)) (s2.free nz) upd_same
end
end Kn


namespace Kn
open PySem PySem.Spec PyProof.Rows L2 LamX
abbrev nSaid : List Str := ["_law_ask", "_law_error"]
theorem scSaid : FnScope nSaid ["_law_ask"] (defScope (topS 30)) := ⟨rfl, rfl, rfl, by decide +kernel, rfl, by decide +kernel, by decide +kernel⟩
theorem takes_len {X : Cx} {W : WX} (tk : Takes X W) : Takes X (fun c d σ H => σ.length = X.N.length → W c d σ H) := by
  rintro u s' ⟨a, B, sI, pins, σ, H, c, d, e, I, nb, up, sky, na, os, ag, w⟩
  exact tk u s' ⟨a, B, sI, pins, σ, H, c, d, e, I, nb, up, sky, na, os, ag, w I.len⟩
/-- what is raised: NotUsable(w, t) -/
def Refused (K : PySem.W.Frag) (D : Addr) (Q : VK) : XK := fun c d H => c = .ref D ∧ ∃ (dd : Addr) (w t : V), d = some dd ∧ H dd = some (.xd [("at", t), ("word", w)]) ∧
  ∀ (p : Addr) (H' : Hp), Same H H' → H p = none → H' p = some (.tup [.str "no", .str "use", w, t]) → Q (.ref p) H'
def TTsaid (K : PySem.W.Frag) (D : Addr) : (XK → Hp → VK → Prop) → Hp → VK → Prop := fun tl H Q => tl (Refused K D Q) H fun v H' => 2 ≤ sizeLine ∧ ∀ p, H' p = none → Q (.ref p) (upd H' p (.tup [.str "told", v]))
theorem said_gives {X : Cx} {g gR D CL : Addr} {cdg : Value} {q : Str} {fdR : FuncData} (FR : Fun X.K "_law_refusal" "_law_refusal" (topS 29) gR fdR) (bR : Binds X.K fdR ["_law_error"] []) (mR : X.mg "_law_refusal" = some (.ref gR))
    (GR : Handed X.prog X.w X.K X.mg X.base 1 gR fdR ["_law_error"] (spRef X.K D)) (mL : X.mg "LetterError" = some (.ref CL)) (ex : PySem.W.exmOne X.K (.ref D) (.ref CL) = some true) (hr : Room 2 X.A) :
    GivesTo X nSaid "_law_said" (defScope (topS 30)) g cdg (defBody (topS 30)) "_law_ask" q (TTsaid X.K D) := by
  intro f c' s H Q tl act hc h
  have hrs : L2H.RoomH 1 (cxOf C8.CX0 X.prog X.w X.K X.mg X.base nSaid "_law_said" (defScope (topS 30)) g cdg X.A X.stack s H C8.E0).nox.A := (L2H.roomH_of hr).deeper _
  refine ⟨_, pss_one (ps_try_as (X := (cxOf C8.CX0 X.prog X.w X.K X.mg X.base nSaid "_law_said" (defScope (topS 30)) g cdg X.A X.stack s H C8.E0).nox) (c := .ref CL) (i := 1)
      (tb := fun W D σ H => ∃ Ech : XK, (∀ cls d σ' H', Ech cls d H' → σ'.length = 2 → W cls d σ' H') ∧ σ[0]? = some (some (.ref f)) ∧ H c' = some (CodeO c' q) ∧ tl Ech H (fun v H' => 2 ≤ sizeLine ∧ ∀ p, H' p = none → D.rt (.ref p) (upd H' p (.tup [.str "told", v]))))
      (ts := fun a cls d => tRet (tCall (spRef X.K D a cls d) [] E0 (tCons (tVar 1) tNil)))
      rfl rfl scSaid.nd rfl rfl ⟨rfl, by decide, .inl mL⟩ L2.takes0 (fun W pn xe tk _ => ?_) (fun a oe cls d pn hz hf => pss_one (ps_ret (pe_hand GR hrs hz hf (by rfl) mR FR.kp bR (pa_cons (pv 1) pa_nil))))), ?_⟩
  · refine ⟨fun pins s' σ H' D I h' => ?_⟩
    obtain ⟨Ech, hW, h1, h2, h3⟩ := h'
    exact (pss_one (ps_ret (pe_tup (pa_cons pe_str (pa_cons (act (fun c d σ H => σ.length = 2 → W c d σ H) pn xe Ech _ _ (takes_len tk) (fun c d σ' H' e l => hW c d σ' H' e l)) pa_nil))))).run pins s' σ H' D I ⟨h1, h2, h3⟩
  · refine ⟨Refused X.K D Q, ?_, rfl, hc, ?_⟩
    · rintro cls d σ' H' ⟨rfl, dd, w, t, rfl, hd, q⟩ l
      refine ⟨true, ex, fun _ a ha => ?_, fun z => by cases z⟩
      match σ', l with
      | [u, v], _ => exact ⟨.ref a, rfl, dd, w, t, rfl, rfl, rfl, hd, q⟩
    · exact h
end Kn


namespace Kn
open PySem PySem.Spec PyProof.Rows L2
def initS : Stmt := (C8.clsBody (topS 7)).getD 0 (.Pass ⟨0, 0, 0, 0⟩)
abbrev nInit : List Str := ["self", "word", "at"]
theorem scInit : FnScope nInit ["self", "word", "at"] (defScope initS) := ⟨rfl, rfl, rfl, by decide +kernel, rfl, by decide +kernel, by decide +kernel⟩
abbrev nForm : List Str := ["web", "kind", "row"]
theorem scForm : FnScope nForm ["web", "kind"] (defScope (topS 17)) := ⟨rfl, rfl, rfl, by decide +kernel, rfl, by decide +kernel, by decide +kernel⟩

def spInit (K : PySem.W.Frag) (D : Addr) : Sp := fun vs H Q _ => ∃ (a : Addr) (x y : V), vs = [.ref a, x, y] ∧ H a = some (exo a D none) ∧
  ∀ dx, H dx = none → dx ≠ a → Q .non (upd (upd (upd H dx (exd dx [("word", x)])) a (exo a D (some dx))) dx (exd dx [("at", y), ("word", x)]))
/-- the first kind whose name is d -/
def First (g : Pg) (d : PyData) (e : Ent) : Prop := ∃ i : Nat, g.es[i]? = some e ∧ PyData.eqv (.str e.name) d = true ∧ ∀ (j : Nat) (e' : Ent), j < i → g.es[j]? = some e' → PyData.eqv (.str e'.name) d = false
def Nobody (g : Pg) (d : PyData) : Prop := ∀ e ∈ g.es, PyData.eqv (.str e.name) d = false
def NoKind (D : Addr) (H : Hp) (E : XK) : Prop := ∀ dd, H dd = none → E (.ref D) (some dd) (upd H dd (.xd [("at", .int (-1)), ("word", .str "kind")]))
/-- a web and what is asked for: found, or nobody -/
def spBy (K : PySem.W.Frag) (D : Addr) (R : Pg → Ent → V → Hp → VK → Prop) : Sp := fun vs H Q E => ∃ (v k : V) (g : Pg) (d : PyData), vs = [v, k] ∧ PgAt K H v g ∧ g.ok ∧ (∀ e ∈ g.es, SeqAt.shaped (.str e.name) = true) ∧ Dp K H k d ∧ SeqAt.shaped d = true ∧
  ((∃ e, First g d e ∧ ∀ r, EntAt K H r e → R g e r H Q) ∨ (Nobody g d ∧ NoKind D H E))
structure ErrM (K : PySem.W.Frag) (mg : Str → Option Value) (D fI : Addr) (fdI : FuncData) : Prop where
  n : ErrN K mg D
  x : OexC K D
  F : Fun K "__init__" "NotUsable.__init__" initS fI fdI
  b : Binds K fdI ["self", "word", "at"] []
  i : PySem.W.findIn K (.ref D) "__init__" = some (some (.ref fI))
  t : PySem.W.typeIn K (.ref fI) = some (.type "function")
  m : mg "NotUsable" = some (.ref D)
section
variable {P : Program} {w : World} {K : PySem.W.Frag} {mg : Str → Option Value} {base : Heap}
theorem ok_init {f D : Addr} {fd : FuncData} (T : ErrM K mg D f fd) : FnOk P w K mg base CX0 1 f fd ["self", "word", "at"] (spInit K D) := by
  refine T.F.ok scInit (fun vs H Q E h => ?_) (fun cdv A outer s H vs Q E hr h => ?_)
  · obtain ⟨a, x, y, rfl, _⟩ := h
    rfl
  · obtain ⟨a, x, y, rfl, ha, q⟩ := h
    refine ⟨_, pss_cons (ps_ost (pv 0) (pv 1)) (pss_one (ps_ost (pv 0) (pv 2))), ?_⟩
    refine ⟨x, rfl, .ref a, rfl, a, D, rfl, T.x, T.n.noW, .inl ⟨ha, fun dx nd ne => ?_⟩⟩
    refine ⟨y, rfl, .ref a, rfl, a, D, rfl, T.x, T.n.noA, .inr ⟨dx, [("word", x)], upd_same, (by rw [upd_ne ne, upd_same]), (show 1 ≤ 900 by decide), q dx nd ne⟩⟩
theorem made_raise {H : Hp} {a dx : Addr} {o1 o2 o3 o4 : HO} {fs : List (Str × V)} (ha : H a = none) (ne : dx ≠ a) : upd (del (upd (upd (upd (upd H a o1) dx o2) a o3) dx o4) a) dx (.xd fs) = upd H dx (.xd fs) := by
  funext b
  by_cases h1 : b = dx
  · rw [h1, upd_same, upd_same]
  · rw [upd_ne h1, upd_ne h1]
    by_cases h2 : b = a
    · rw [h2, del_same, ha]
    · rw [del_ne h2, upd_ne h1, upd_ne h2, upd_ne h1, upd_ne h2]
theorem ok_form {f fI D : Addr} {fd fdI : FuncData} (F : Fun K "form_of" "form_of" (topS 17) f fd) (T : ErrM K mg D fI fdI) : FnOk P w K mg base (L2.CX P w) 3 f fd ["web", "kind"] (spBy K D fun _ _ r H Q => Q r H) := by
  have GI : FnOk P w K mg base CX0 1 fI fdI ["self", "word", "at"] (spInit K D) := ok_init T
  refine F.okX scForm (fun vs H Q E h => ?_) (fun cdv A outer s H vs Q E hr h => ?_)
  · obtain ⟨v, k, g, d, rfl, _⟩ := h
    rfl
  · obtain ⟨v, k, g, d, rfl, ⟨p, r, ws, rfl, hp, hr', hE⟩, ok, hn, hk, hs, q⟩ := h
    have lw := hE.len
    refine ⟨_, pss_cons (ps_for (passes_of rfl) rfl (pi_tup (pe_ix ix_tup (pv 0) pe_int (fun _ _ => rfl))) (pg_name (i := 2) scForm.nd rfl (.inl rfl))
        (pss_one (ps_if (pt_cmpR (op_eqD hr.units) (pe_ix ix_tup (pv 2) pe_int (fun _ _ => rfl)) (pv 1) (nomark _)) (pss_one (ps_ret (pv 2))) pss_nil)))
      (pss_one (ps_raise rfl (takes_of rfl rfl rfl rfl) (pmk_oex T.x T.i T.t GI hr T.b .nil pass0 rfl T.m (pa_cons pe_str (pa_cons (pe_un un_neg pe_int) pa_nil))))), ?_⟩
    refine ⟨.ref p, rfl, p, _, 0, .ref r, rfl, rfl, hp, atI_nat (j := 0) rfl, r, rfl, ⟨ws, hr'⟩, ?_⟩
    refine for_tup (K := K) (a := r) (xs := ws) (fun i σ G => G = H ∧ (∃ y, σ = [some (.ref p), some k, y]) ∧ ∀ (j : Nat) (e' : Ent), j < i → g.es[j]? = some e' → PyData.eqv (.str e'.name) d = false) ⟨rfl, ⟨none, rfl⟩, fun j e' h => absurd h (Nat.not_lt_zero j)⟩ (fun i σ G _ h => by rw [h.1]; exact hr') ?_ ?_
    · rintro i x σ G hx ⟨rfl, ⟨y, rfl⟩, old⟩
      obtain ⟨e, he, hv⟩ := hE.get hx
      obtain ⟨p1, r1, rfl, hp1, hr1⟩ := id hv
      refine ⟨.ref p1, rfl, p1, _, 0, .str e.name, rfl, rfl, hp1, atI_nat (j := 0) rfl, k, rfl, _, _, .str e.name, hk, hn e (List.mem_of_getElem? he), hs, _, rfl, ?_⟩
      cases hq : PyData.eqv (.str e.name) d
      · refine iteF ?_
        refine ⟨rfl, ⟨_, rfl⟩, fun j e' hj he' => ?_⟩
        rcases Nat.lt_succ_iff_lt_or_eq.mp hj with hj | rfl
        · exact old j e' hj he'
        · rw [he] at he'
          cases he'
          exact hq
      · refine iteT ⟨_, rfl, ?_⟩
        rcases q with ⟨e0, ⟨i0, h0, h1, h2⟩, q⟩ | ⟨no, _⟩
        · have ei : i = i0 := by
            rcases Nat.lt_trichotomy i i0 with h | h | h
            · exact absurd (h2 i e h he) (by rw [hq]; decide)
            · exact h
            · exact absurd (old i0 e0 h h0) (by rw [h1]; decide)
          subst ei
          rw [he] at h0
          cases h0
          exact q _ hv
        · exact absurd (no e (List.mem_of_getElem? he)) (by rw [hq]; decide)
    · rintro σ G ⟨rfl, ⟨y, rfl⟩, old⟩
      rcases q with ⟨e0, ⟨i0, h0, h1, h2⟩, q⟩ | ⟨no, q⟩
      · have hi : i0 < g.es.length := (List.getElem?_eq_some_iff.mp h0).1
        exact absurd (old i0 e0 (by omega) h0) (by rw [h1]; decide)
      · refine ⟨1, rfl, (show 2 ≤ 1000 by decide), fun a ha => ⟨a, .str "kind", .int (-1), rfl, upd_same, fun dx nd ne => ⟨rfl, dx, _, ?_, upd_same, ?_, ?_⟩⟩⟩
        · rw [upd_ne ne.symm, upd_same]
        · rw [upd_ne ne] at nd
          exact nd
        · rw [upd_ne ne] at nd
          show E _ _ _
          rw [made_raise ha ne]
          exact q dx nd
end
end Kn


namespace Kn
open PySem PySem.Spec PyProof.Rows L2
/-! ### data that can be shown -/
structure Sh (k B : Nat) (d : PyData) : Prop where
  ok : d.showable = true
  nd : d.hasDict = false
  dp : d.depth ≤ k
  ln : d.shown.length ≤ B
theorem Sh.mono {k B k' B' : Nat} {d : PyData} (h : Sh k B d) (a : k ≤ k') (b : B ≤ B') : Sh k' B' d := ⟨h.ok, h.nd, Nat.le_trans h.dp a, Nat.le_trans h.ln b⟩
theorem sh_str {n : Nat} {x : Str} (h : Fit n x) : Sh 0 (10 * n + 2) (.str x) := by
  refine ⟨rfl, rfl, Nat.le_refl _, ?_⟩
  show (reprText x).length ≤ _
  have := StrLaws.reprText_len x h.2
  have := h.1
  omega
theorem sh_int {i : Int} (h : i.natAbs < 10 ^ 60) : Sh 0 61 (.int i) := ⟨by show decide _ = true; exact decide_eq_true (fee_log h), rfl, Nat.le_refl _, (feeT_fit h).1⟩
theorem sh_bool (b : Bool) : Sh 0 5 (.bool b) := by
  refine ⟨rfl, rfl, Nat.le_refl _, ?_⟩
  cases b <;> decide +kernel
theorem shownAll_len {k B : Nat} : ∀ ds : List PyData, (∀ d ∈ ds, Sh k B d) → PyData.showableAll ds = true ∧ PyData.hasDictAll ds = false ∧ PyData.depthAll ds ≤ k ∧ ((PyData.shownAll ds).map (·.length)).sum ≤ ds.length * B ∧ (PyData.shownAll ds).length = ds.length
  | [], _ => ⟨rfl, rfl, Nat.zero_le _, Nat.zero_le _, rfl⟩
  | d :: r, h => by
    obtain ⟨a1, a2, a3, a4, a5⟩ := shownAll_len r fun x hx => h x (List.mem_cons_of_mem _ hx)
    have q := h d (List.mem_cons_self ..)
    refine ⟨?_, ?_, ?_, ?_, ?_⟩
    · show (d.showable && PyData.showableAll r) = true
      rw [q.ok, a1]
      rfl
    · show (d.hasDict || PyData.hasDictAll r) = false
      rw [q.nd, a2]
      rfl
    · show max d.depth (PyData.depthAll r) ≤ k
      have := q.dp
      omega
    · show ((d.shown :: PyData.shownAll r).map (·.length)).sum ≤ (r.length + 1) * B
      rw [List.map_cons, List.sum_cons, Nat.add_mul]
      have := q.ln
      omega
    · show (d.shown :: PyData.shownAll r).length = r.length + 1
      rw [List.length_cons, a5]
theorem sh_list {k B n : Nat} {ds : List PyData} (h : ∀ d ∈ ds, Sh k B d) (hn : ds.length ≤ n) : Sh (k + 1) (n * (B + 2) + 3) (.list ds) := by
  obtain ⟨a1, a2, a3, a4, a5⟩ := shownAll_len ds h
  refine ⟨a1, a2, Nat.succ_le_succ a3, ?_⟩
  show (listText (PyData.shownAll ds)).length ≤ _
  have q := listText_len_le (PyData.shownAll ds)
  rw [a5] at q
  have m : ds.length * (B + 2) ≤ n * (B + 2) := Nat.mul_le_mul_right _ hn
  rw [Nat.mul_add] at m
  omega
theorem sh_tup {k B n : Nat} {ds : List PyData} (h : ∀ d ∈ ds, Sh k B d) (hn : ds.length ≤ n) : Sh (k + 1) (n * (B + 2) + 3) (.tuple ds) := by
  obtain ⟨a1, a2, a3, a4, a5⟩ := shownAll_len ds h
  refine ⟨a1, a2, Nat.succ_le_succ a3, ?_⟩
  show (tupleText (PyData.shownAll ds)).length ≤ _
  have q := tupleText_len_le (PyData.shownAll ds)
  rw [a5] at q
  have m : ds.length * (B + 2) ≤ n * (B + 2) := Nat.mul_le_mul_right _ hn
  rw [Nat.mul_add] at m
  omega
def dEnt (e : Ent) : PyData := .tuple [.str e.name, .int e.fee, .bool e.has, .tuple (e.row.map PyData.str)]
def dPg (g : Pg) : PyData := .tuple [.tuple (g.es.map dEnt), .str g.asks]
theorem dp_strs {K : PySem.W.Frag} {H : Hp} : ∀ ss : List Str, DpAll K H (ss.map V.str) (ss.map PyData.str)
  | [] => .nil
  | s :: r => .cons (.str s) (dp_strs r)
theorem EntAt.dp {K : PySem.W.Frag} {H : Hp} {v : V} {e : Ent} (h : EntAt K H v e) : Dp K H v (dEnt e) := by
  obtain ⟨p, q, rfl, h1, h2⟩ := h
  exact .tup h1 (.cons (.str _) (.cons (.int _) (.cons (.bl _) (.cons (.tup h2 (dp_strs e.row)) .nil))))
theorem EntsAt.dp {K : PySem.W.Frag} {H : Hp} : ∀ {vs : List V} {es : List Ent}, EntsAt K H vs es → DpAll K H vs (es.map dEnt)
  | _, _, .nil => .nil
  | _, _, .cons a b => .cons a.dp (EntsAt.dp b)
theorem PgAt.dp {K : PySem.W.Frag} {H : Hp} {v : V} {g : Pg} (h : PgAt K H v g) : Dp K H v (dPg g) := by
  obtain ⟨p, q, vs, rfl, h1, h2, h3⟩ := h
  exact .tup h1 (.cons (.tup h2 h3.dp) (.cons (.str _) .nil))
theorem sh_ent {e : Ent} (h : e.ok) : Sh 2 3000 (dEnt e) := by
  obtain ⟨h1, h2, h3, h4⟩ := h
  refine (sh_tup (k := 1) (B := 675) (n := 4) ?_ (by simp)).mono (by decide) (by decide)
  intro d hd
  simp only [List.mem_cons, List.not_mem_nil, or_false] at hd
  rcases hd with rfl | rfl | rfl | rfl
  · exact (sh_str h1).mono (by decide) (by decide)
  · exact (sh_int h2).mono (by decide) (by decide)
  · exact (sh_bool _).mono (by decide) (by decide)
  · refine (sh_tup (k := 0) (B := 82) (n := 8) ?_ (by rw [List.length_map]; exact h3)).mono (by decide) (by decide)
    intro d hd
    obtain ⟨s, hs, rfl⟩ := List.mem_map.mp hd
    exact sh_str (h4 s hs)
theorem sh_pg {g : Pg} (h : g.ok) : Sh 4 100000 (dPg g) := by
  obtain ⟨h1, h2, h3⟩ := h
  refine (sh_tup (k := 3) (B := 40000) (n := 2) ?_ (by simp)).mono (by decide) (by decide)
  intro d hd
  simp only [List.mem_cons, List.not_mem_nil, or_false] at hd
  rcases hd with rfl | rfl
  · refine (sh_tup (k := 2) (B := 3000) (n := 12) ?_ (by rw [List.length_map]; exact h1)).mono (by decide) (by decide)
    intro d hd
    obtain ⟨e, he, rfl⟩ := List.mem_map.mp hd
    exact sh_ent (h2 e he)
  · exact (sh_str h3).mono (by decide) (by decide)

end Kn


namespace Kn
open PySem PySem.Spec PyProof.Rows L2
/-! ### texts in order -/
def leS (a b : Str) : Bool := decide (a.cps.toList ≤ b.cps.toList)
theorem leS_trans {a b c : Str} (h : leS a b = true) (k : leS b c = true) : leS a c = true := decide_eq_true (List.le_trans (of_decide_eq_true h) (of_decide_eq_true k))
theorem leS_total (a b : Str) : (leS a b || leS b a) = true := by
  rcases List.le_total a.cps.toList b.cps.toList with h | h
  · unfold leS
    rw [decide_eq_true h, Bool.true_or]
  · unfold leS
    rw [decide_eq_true h, Bool.or_true]
theorem cps_inj {a b : Str} (h : a.cps.toList = b.cps.toList) : a = b := by
  cases a
  cases b
  exact congrArg Str.mk (Array.toList_inj.mp h)
theorem leS_anti {a b : Str} (h : leS a b = true) (k : leS b a = true) : a = b := cps_inj (List.le_antisymm (of_decide_eq_true h) (of_decide_eq_true k))
theorem lt_le {a b : Str} (h : Lt a b) : leS a b = true := by
  have z : a.cps.toList < b.cps.toList := of_decide_eq_true ((ltCps_eq _ _).symm.trans h)
  exact decide_eq_true (List.le_of_lt z)
theorem lt_ne' {a b : Str} (h : Lt a b) : a ≠ b := by
  rintro rfl
  have z : a.cps.toList < a.cps.toList := of_decide_eq_true ((ltCps_eq _ _).symm.trans h)
  exact List.lt_irrefl _ z
theorem le_lt {a b : Str} (h : leS a b = true) (n : a ≠ b) : Lt a b := by
  refine (ltCps_eq _ _).trans (decide_eq_true ?_)
  have z : a.cps.toList ≤ b.cps.toList := of_decide_eq_true h
  rcases List.le_iff_lt_or_eq.mp z with z | z
  · exact z
  · exact absurd (cps_inj z) n
/-- sorted by a key that tells apart -/
theorem one_order {α : Type} (f : α → Str) : ∀ (xs ys : List α), xs.Perm ys → (xs.map f).Nodup → xs.Pairwise (fun a b => leS (f a) (f b) = true) → ys.Pairwise (fun a b => leS (f a) (f b) = true) → xs = ys
  | [], ys, p, _, _, _ => by
    have := p.length_eq
    exact (List.eq_nil_of_length_eq_zero this.symm).symm
  | x :: xs, [], p, _, _, _ => by
    have := p.length_eq
    cases this
  | x :: xs, y :: ys, p, nd, h, k => by
    obtain ⟨h1, h2⟩ := List.pairwise_cons.mp h
    obtain ⟨k1, k2⟩ := List.pairwise_cons.mp k
    have e : x = y := by
      have mx : x ∈ y :: ys := p.mem_iff.mp (List.mem_cons_self ..)
      have my : y ∈ x :: xs := p.mem_iff.mpr (List.mem_cons_self ..)
      rcases List.mem_cons.mp mx with z | z
      · exact z
      · rcases List.mem_cons.mp my with w | w
        · exact w.symm
        · have eq := leS_anti (h1 y w) (k1 x z)
          have nd := (List.nodup_cons.mp (show (f x :: xs.map f).Nodup from nd)).1
          exact absurd (List.mem_map.mpr ⟨y, w, eq.symm⟩) nd
    subst e
    rw [one_order f xs ys ((List.perm_cons x).mp p) (List.nodup_cons.mp (show (f x :: xs.map f).Nodup from nd)).2 h2 k2]
theorem str_order : ∀ (xs ys : List Str), xs.Perm ys → xs.Pairwise (fun a b => leS a b = true) → ys.Pairwise (fun a b => leS a b = true) → xs = ys
  | [], ys, p, _, _ => by
    have := p.length_eq
    exact (List.eq_nil_of_length_eq_zero this.symm).symm
  | x :: xs, [], p, _, _ => by
    have := p.length_eq
    cases this
  | x :: xs, y :: ys, p, h, k => by
    obtain ⟨h1, h2⟩ := List.pairwise_cons.mp h
    obtain ⟨k1, k2⟩ := List.pairwise_cons.mp k
    have e : x = y := by
      have mx : x ∈ y :: ys := p.mem_iff.mp (List.mem_cons_self ..)
      have my : y ∈ x :: xs := p.mem_iff.mpr (List.mem_cons_self ..)
      rcases List.mem_cons.mp mx with z | z
      · exact z
      · rcases List.mem_cons.mp my with w | w
        · exact w.symm
        · exact leS_anti (h1 y w) (k1 x z)
    subst e
    rw [str_order xs ys ((List.perm_cons x).mp p) h2 k2]
def sortS (l : List Str) : List Str := l.mergeSort leS
theorem sortS_perm (l : List Str) : (sortS l).Perm l := List.mergeSort_perm _ _
theorem sortS_le (l : List Str) : (sortS l).Pairwise (fun a b => leS a b = true) := List.pairwise_mergeSort (le := leS) (fun _ _ _ => leS_trans) leS_total l
theorem sortS_of {xs l : List Str} (p : xs.Perm l) (h : xs.Pairwise (fun a b => leS a b = true)) : xs = sortS l := str_order _ _ (p.trans (sortS_perm l).symm) h (sortS_le l)
theorem rising_le : ∀ (r : List Str) (p : Str), risingS p r = true → (p :: r).Pairwise (fun a b => leS a b = true)
  | [], _, _ => List.pairwise_singleton _ _
  | x :: r, p, h => by
    have h : (!ltCps x.cps.toList p.cps.toList && risingS x r) = true := h
    obtain ⟨h1, h2⟩ := Bool.and_eq_true_iff.mp h
    have ih := rising_le r x h2
    have px : leS p x = true := by
      rw [ltCps_eq] at h1
      have z : ¬ x.cps.toList < p.cps.toList := by simpa using h1
      exact decide_eq_true (List.not_lt.mp z)
    refine List.pairwise_cons.mpr ⟨fun y hy => ?_, ih⟩
    rcases List.mem_cons.mp hy with rfl | hy
    · exact px
    · exact leS_trans px ((List.pairwise_cons.mp ih).1 y hy)
theorem sorted_leS {ys : List Str} (h : sortedS ys = true) : ys.Pairwise (fun a b => leS a b = true) := by
  cases ys with
  | nil => exact List.Pairwise.nil
  | cons p r => exact rising_le r p h
theorem asc_le {ys : List Str} (h : Asc ys) : ys.Pairwise (fun a b => leS a b = true) := h.imp lt_le
theorem asc_nd' {ys : List Str} (h : Asc ys) : ys.Nodup := h.imp lt_ne'
theorem le_asc {ys : List Str} (h : ys.Pairwise (fun a b => leS a b = true)) (nd : ys.Nodup) : Asc ys := (h.and nd).imp fun ⟨a, b⟩ => le_lt a b
/-! ### entries in order -/
def sortE (l : List Ent) : List Ent := l.mergeSort fun a b => leS a.name b.name
theorem sortE_perm (l : List Ent) : (sortE l).Perm l := List.mergeSort_perm _ _
theorem sortE_le (l : List Ent) : (sortE l).Pairwise (fun a b => leS a.name b.name = true) := List.pairwise_mergeSort (le := fun a b : Ent => leS a.name b.name) (fun _ _ _ => leS_trans) (fun a b => leS_total a.name b.name) l
theorem sortE_of {xs l : List Ent} (p : xs.Perm l) (nd : (l.map (·.name)).Nodup) (h : xs.Pairwise (fun a b => leS a.name b.name = true)) : xs = sortE l :=
  one_order (·.name) _ _ (p.trans (sortE_perm l).symm) (((p.map (·.name)).nodup_iff).mpr nd) h (sortE_le l)
def mapE (φ : Str → Str) (e : Ent) : Ent := ⟨φ e.name, e.fee, e.has, sortS (e.row.map φ)⟩
def mapPg (φ : Str → Str) (g : Pg) : Pg := ⟨sortE (g.es.map (mapE φ)), φ g.asks⟩
/-- how a text may be called -/
def Nm (s : Str) : Prop := s.length ≤ 8 ∧ 1 ≤ s.length ∧ (s.cps.toList.all fun c => decide (97 ≤ c ∧ c ≤ 122)) = true
abbrev nms (g : Pg) : List Str := g.es.map (·.name)
structure Gd (g : Pg) : Prop where
  asc : Asc (nms g)
  row : ∀ e ∈ g.es, Asc e.row ∧ ∀ s ∈ e.row, s ∈ nms g
  asks : g.asks ∈ nms g
  nm : ∀ s ∈ nms g, Nm s
  fee : ∀ e ∈ g.es, e.fee.natAbs < 10 ^ 60
  l5 : g.es.length ≤ 5
theorem map_mem {φ : Str → Str} {g : Pg} {s : Str} : s ∈ nms (mapPg φ g) ↔ ∃ t ∈ nms g, φ t = s := by
  have p : (nms (mapPg φ g)).Perm ((nms g).map φ) := by
    have z := (sortE_perm (g.es.map (mapE φ))).map (·.name)
    rw [List.map_map] at z
    rw [show (nms g).map φ = g.es.map ((fun e : Ent => e.name) ∘ mapE φ) by rw [List.map_map]; rfl]
    exact z
  rw [p.mem_iff, List.mem_map]
structure Inj (φ : Str → Str) (g : Pg) : Prop where
  inj : ∀ s ∈ nms g, ∀ t ∈ nms g, φ s = φ t → s = t
  nm : ∀ s ∈ nms g, Nm (φ s)
theorem nodup_map {φ : Str → Str} : ∀ {l : List Str}, l.Nodup → (∀ s ∈ l, ∀ t ∈ l, φ s = φ t → s = t) → (l.map φ).Nodup
  | [], _, _ => List.nodup_nil
  | x :: r, nd, i => by
    obtain ⟨n1, n2⟩ := List.nodup_cons.mp nd
    rw [List.map_cons]
    refine List.nodup_cons.mpr ⟨fun h => ?_, nodup_map n2 fun s hs t ht => i s (List.mem_cons_of_mem _ hs) t (List.mem_cons_of_mem _ ht)⟩
    obtain ⟨t, ht, e⟩ := List.mem_map.mp h
    have := i t (List.mem_cons_of_mem _ ht) x (List.mem_cons_self ..) e
    exact n1 (this ▸ ht)
theorem names_mapE (φ : Str → Str) (l : List Ent) : (l.map (mapE φ)).map (·.name) = (l.map (·.name)).map φ := by
  rw [List.map_map, List.map_map]
  rfl
theorem nd_map {φ : Str → Str} {g : Pg} (h : Gd g) (i : Inj φ g) : ((g.es.map (mapE φ)).map (·.name)).Nodup := by
  rw [names_mapE]
  exact nodup_map (asc_nd' h.asc) i.inj
theorem Gd.map {φ : Str → Str} {g : Pg} (h : Gd g) (i : Inj φ g) : Gd (mapPg φ g) := by
  have pm : (mapPg φ g).es.Perm (g.es.map (mapE φ)) := sortE_perm _
  have mem : ∀ e' ∈ (mapPg φ g).es, ∃ e ∈ g.es, mapE φ e = e' := fun e' h' => List.mem_map.mp (pm.mem_iff.mp h')
  refine ⟨?_, fun e' h' => ?_, ?_, fun s hs => ?_, fun e' h' => ?_, ?_⟩
  · have z := sortE_le (g.es.map (mapE φ))
    have nd : ((sortE (g.es.map (mapE φ))).map (·.name)).Nodup := (((sortE_perm _).map (·.name)).nodup_iff).mpr (nd_map h i)
    exact le_asc (List.pairwise_map.mpr z) nd
  · obtain ⟨e, he, rfl⟩ := mem e' h'
    obtain ⟨a, b⟩ := h.row e he
    refine ⟨le_asc (sortS_le _) (((sortS_perm _).nodup_iff).mpr (nodup_map (asc_nd' a) fun s hs t ht => i.inj s (b s hs) t (b t ht))), fun s hs => ?_⟩
    obtain ⟨t, ht, rfl⟩ := List.mem_map.mp ((sortS_perm _).mem_iff.mp hs)
    exact map_mem.mpr ⟨t, b t ht, rfl⟩
  · exact map_mem.mpr ⟨g.asks, h.asks, rfl⟩
  · obtain ⟨t, ht, rfl⟩ := map_mem.mp hs
    exact i.nm t ht
  · obtain ⟨e, he, rfl⟩ := mem e' h'
    exact h.fee e he
  · rw [pm.length_eq, List.length_map]
    exact h.l5
theorem map_map {φ ψ : Str → Str} {g : Pg} (h : Gd g) (i : Inj φ g) (k : Inj ψ (mapPg φ g)) : mapPg ψ (mapPg φ g) = mapPg (fun s => ψ (φ s)) g := by
  have e1 : ∀ e : Ent, mapE ψ (mapE φ e) = mapE (fun s => ψ (φ s)) e := by
    intro e
    unfold mapE
    have z : sortS ((sortS (e.row.map φ)).map ψ) = sortS (e.row.map fun s => ψ (φ s)) := by
      refine str_order _ _ ?_ (sortS_le _) (sortS_le _)
      refine ((sortS_perm _).trans ((sortS_perm _).map ψ)).trans ?_
      rw [List.map_map]
      exact (sortS_perm _).symm
    rw [z]
  have g2 := h.map i
  have z : sortE ((sortE (g.es.map (mapE φ))).map (mapE ψ)) = sortE (g.es.map (mapE fun s => ψ (φ s))) := by
    have pm : ((sortE (g.es.map (mapE φ))).map (mapE ψ)).Perm (g.es.map (mapE fun s => ψ (φ s))) := by
      refine ((sortE_perm _).map (mapE ψ)).trans ?_
      rw [List.map_map, List.map_congr_left (f := mapE ψ ∘ mapE φ) (g := mapE fun s => ψ (φ s)) (fun e _ => e1 e)]
    exact sortE_of ((sortE_perm _).trans pm) (((pm.map (·.name)).nodup_iff).mp (nd_map g2 k)) (sortE_le _)
  show (⟨sortE ((sortE (g.es.map (mapE φ))).map (mapE ψ)), ψ (φ g.asks)⟩ : Pg) = ⟨sortE (g.es.map (mapE fun s => ψ (φ s))), ψ (φ g.asks)⟩
  rw [z]
theorem map_congr {φ ψ : Str → Str} {g : Pg} (h : Gd g) (e : ∀ s ∈ nms g, φ s = ψ s) : mapPg φ g = mapPg ψ g := by
  have z : g.es.map (mapE φ) = g.es.map (mapE ψ) := List.map_congr_left fun x hx => by
    unfold mapE
    rw [e x.name (List.mem_map.mpr ⟨x, hx, rfl⟩), List.map_congr_left fun s hs => e s ((h.row x hx).2 s hs)]
  unfold mapPg
  rw [z, e g.asks h.asks]
theorem map_same {g : Pg} (h : Gd g) : mapPg (fun s => s) g = g := by
  have z : g.es.map (mapE fun s => s) = g.es := by
    conv => rhs; rw [← List.map_id g.es]
    refine List.map_congr_left fun x hx => ?_
    unfold mapE
    rw [List.map_id', ← sortS_of (List.Perm.refl _) (asc_le (h.row x hx).1)]
    rfl
  unfold mapPg
  rw [z, ← sortE_of (List.Perm.refl _) (asc_nd' h.asc) (List.pairwise_map.mp (asc_le h.asc))]
/-! ### one name exchanged -/
def late (o m s : Str) : Str := if s = o then m else s
abbrev ren (o m : Str) (g : Pg) : Pg := mapPg (late o m) g
theorem late_inj {o m : Str} {g : Pg} (h : Gd g) (nm : Nm m) (free : m = o ∨ m ∉ nms g) : Inj (late o m) g := by
  refine ⟨fun s hs t ht e => ?_, fun s hs => ?_⟩
  · unfold late at e
    by_cases a : s = o
    · rw [if_pos a] at e
      by_cases b : t = o
      · rw [a, b]
      · rw [if_neg b] at e
        rcases free with f | f
        · rw [a, ← f, e]
        · exact absurd (e ▸ ht) f
    · rw [if_neg a] at e
      by_cases b : t = o
      · rw [if_pos b] at e
        rcases free with f | f
        · exact absurd (e.trans f) a
        · exact absurd (e ▸ hs) f
      · rw [if_neg b] at e
        exact e
  · unfold late
    split
    · exact nm
    · exact h.nm s hs
theorem late_back {o m s : Str} {g : Pg} (free : m = o ∨ m ∉ nms g) (hs : s ∈ nms g) : late m o (late o m s) = s := by
  unfold late
  by_cases a : s = o
  · rw [if_pos a, if_pos rfl, a]
  · rw [if_neg a]
    by_cases b : s = m
    · rcases free with f | f
      · exact absurd (b.trans f) a
      · exact absurd (b ▸ hs) f
    · rw [if_neg b]
theorem ren_back {o m : Str} {g : Pg} (h : Gd g) (nm : Nm m) (ho : o ∈ nms g) (free : m = o ∨ m ∉ nms g) : Gd (ren o m g) ∧ m ∈ nms (ren o m g) ∧ (o = m ∨ o ∉ nms (ren o m g)) ∧ ren m o (ren o m g) = g := by
  have i := late_inj h nm free
  have g2 := h.map i
  have mm : m ∈ nms (ren o m g) := map_mem.mpr ⟨o, ho, if_pos rfl⟩
  have fr : o = m ∨ o ∉ nms (ren o m g) := by
    by_cases e : o = m
    · exact .inl e
    · refine .inr fun z => ?_
      obtain ⟨t, ht, et⟩ := map_mem.mp z
      unfold late at et
      by_cases b : t = o
      · rw [if_pos b] at et
        exact e et.symm
      · rw [if_neg b] at et
        exact b et
  refine ⟨g2, mm, fr, ?_⟩
  show mapPg (late m o) (mapPg (late o m) g) = g
  rw [map_map h i (late_inj g2 (h.nm o ho) fr), map_congr h (ψ := fun s => s) (fun s hs => late_back free hs), map_same h]
/-- the swap of two names -/
def swp (a b s : Str) : Str := if s = a then b else if s = b then a else s
theorem turned {a b n : Str} {g : Pg} (h : Gd g) (ha : a ∈ nms g) (hb : b ∈ nms g) (ab : a ≠ b) (nn : Nm n) (fn : n ∉ nms g) :
    Gd (ren a n g) ∧ b ∈ nms (ren a n g) ∧ a ∉ nms (ren a n g) ∧ Gd (ren b a (ren a n g)) ∧ n ∈ nms (ren b a (ren a n g)) ∧ b ∉ nms (ren b a (ren a n g)) ∧ ren n b (ren b a (ren a n g)) = mapPg (swp a b) g := by
  have na : n ≠ a := fun z => fn (z ▸ ha)
  have nb : n ≠ b := fun z => fn (z ▸ hb)
  have i1 := late_inj (o := a) h nn (.inr fn)
  have g1 := h.map i1
  have b1 : b ∈ nms (ren a n g) := map_mem.mpr ⟨b, hb, if_neg (Ne.symm ab)⟩
  have a1 : a ∉ nms (ren a n g) := fun z => by
    obtain ⟨t, ht, e⟩ := map_mem.mp z
    unfold late at e
    by_cases q : t = a
    · rw [if_pos q] at e
      exact na e
    · rw [if_neg q] at e
      exact q e
  have n1 : n ∈ nms (ren a n g) := map_mem.mpr ⟨a, ha, if_pos rfl⟩
  have i2 := late_inj (o := b) g1 (h.nm a ha) (.inr a1)
  have g2 := g1.map i2
  have n2 : n ∈ nms (ren b a (ren a n g)) := map_mem.mpr ⟨n, n1, if_neg nb⟩
  have b2 : b ∉ nms (ren b a (ren a n g)) := fun z => by
    obtain ⟨t, ht, e⟩ := map_mem.mp z
    unfold late at e
    by_cases q : t = b
    · rw [if_pos q] at e
      exact ab e
    · rw [if_neg q] at e
      exact q e
  have i3 := late_inj (o := n) g2 (h.nm b hb) (.inr b2)
  refine ⟨g1, b1, a1, g2, n2, b2, ?_⟩
  show mapPg (late n b) (mapPg (late b a) (mapPg (late a n) g)) = mapPg (swp a b) g
  rw [map_map g1 i2 i3]
  have i4 : Inj (fun s => late n b (late b a s)) (mapPg (late a n) g) := by
    refine ⟨fun s hs t ht e => ?_, fun s hs => ?_⟩
    · exact i2.inj s hs t ht (i3.inj _ (map_mem.mpr ⟨s, hs, rfl⟩) _ (map_mem.mpr ⟨t, ht, rfl⟩) e)
    · exact i3.nm _ (map_mem.mpr ⟨s, hs, rfl⟩)
  rw [map_map h i1 i4]
  refine map_congr h fun s hs => ?_
  have sn : s ≠ n := fun z => fn (z ▸ hs)
  unfold late swp
  by_cases x : s = a
  · rw [if_pos x, if_pos x, if_neg nb, if_pos rfl]
  · rw [if_neg x, if_neg x]
    by_cases y : s = b
    · rw [if_pos y, if_neg (Ne.symm na)]
    · rw [if_neg y, if_neg sn]
end Kn


namespace Kn
open PySem PySem.Spec PyProof.Rows L2
open PySem.W (dataLe dataLt keyToks keyToksAll alike alikeAll AllAlike Sortable EachIs dataLe_eq dataLe_str dataLt_cons dataLt_tuple)
/-! ### entries as data -/
theorem alike_txts : ∀ xs ys : List Str, alikeAll (xs.map PyData.str) (ys.map PyData.str) = true
  | [], _ => by
    show alikeAll [] _ = true
    unfold alikeAll
    rfl
  | _ :: _, [] => rfl
  | x :: xs, y :: ys => by
    show (alike (.str x) (.str y) && alikeAll (xs.map PyData.str) (ys.map PyData.str)) = true
    rw [alike_txts xs ys]
    rfl
theorem alike_ent (a b : Ent) : alike (dEnt a) (dEnt b) = true := by
  show (true && (true && (true && (alikeAll (a.row.map PyData.str) (b.row.map PyData.str) && true)))) = true
  rw [alike_txts]
  rfl
theorem key_txts : ∀ xs : List Str, keysB (xs.map PyData.str) = true
  | [] => rfl
  | _ :: xs => key_txts xs
theorem key_ent (e : Ent) : keyB (dEnt e) = true := by
  show (keysB (e.row.map PyData.str) && true) = true
  rw [key_txts]
  rfl
theorem depth_txts : ∀ xs : List Str, PyData.depthAll (xs.map PyData.str) = 0
  | [] => rfl
  | _ :: xs => by
    show max 0 (PyData.depthAll (xs.map PyData.str)) = 0
    rw [depth_txts xs]
    rfl
theorem depth_ent (e : Ent) : (dEnt e).depth ≤ 8 := by
  show max 0 (max 0 (max 0 (max (PyData.depthAll (e.row.map PyData.str) + 1) 0))) + 1 ≤ 8
  rw [depth_txts]
  decide
theorem key_name {a b : Ent} (h : keyD (dEnt a) = keyD (dEnt b)) : a.name = b.name := by
  have h : NestedKey.tup (.text a.name :: keyDs [.int a.fee, .bool a.has, .tuple (a.row.map PyData.str)]) = NestedKey.tup (.text b.name :: keyDs [.int b.fee, .bool b.has, .tuple (b.row.map PyData.str)]) := h
  injection h with h
  injection h with h _
  injection h
abbrev EC := Addr × Ent
abbrev cellE (p : EC) : Cell := (p.1, dEnt p.2)
theorem lt_str (a b : Str) : (!dataLt (.str b) (.str a)) = leS a b := by
  have z := congrFun (congrFun (dataLe_str (fun s : Str => s)) a) b
  rw [dataLe_eq] at z
  exact z
theorem le_ent {x y : EC} (h : x.2.name ≠ y.2.name) : leD (fun p : Cell => p.2) (cellE x) (cellE y) = leS x.2.name y.2.name := by
  show dataLe false (fun p : Cell => p.2) (cellE x) (cellE y) = _
  rw [dataLe_eq]
  show (!dataLt (.tuple (.str y.2.name :: [.int y.2.fee, .bool y.2.has, .tuple (y.2.row.map PyData.str)])) (.tuple (.str x.2.name :: [.int x.2.fee, .bool x.2.has, .tuple (x.2.row.map PyData.str)]))) = _
  have n : PyData.eqv (.str y.2.name) (.str x.2.name) = false := beq_eq_false_iff_ne.mpr fun z => h z.symm
  rw [dataLt_tuple, dataLt_cons rfl, if_neg (by rw [n]; decide), lt_str]
theorem ent_cells {K : PySem.W.Frag} {H : Hp} : ∀ {ws : List V} {es : List Ent}, EntsAt K H ws es → ∃ ps : List EC, ws = ps.map (fun p => V.ref p.1) ∧ es = ps.map (·.2) ∧ ∀ p ∈ ps, EntAt K H (.ref p.1) p.2
  | _, _, .nil => ⟨[], rfl, rfl, fun _ h => by cases h⟩
  | _, _, .cons a b => by
    obtain ⟨ps, rfl, rfl, h⟩ := ent_cells b
    obtain ⟨p, q, rfl, z⟩ := id a
    refine ⟨(p, _) :: ps, rfl, rfl, fun y hy => ?_⟩
    rcases List.mem_cons.mp hy with rfl | hy
    · exact a
    · exact h y hy
theorem cells_ent {K : PySem.W.Frag} {H : Hp} : ∀ {ps : List EC}, (∀ p ∈ ps, EntAt K H (.ref p.1) p.2) → EntsAt K H (ps.map fun p => V.ref p.1) (ps.map (·.2))
  | [], _ => .nil
  | p :: ps, h => .cons (h p (List.mem_cons_self ..)) (cells_ent fun q hq => h q (List.mem_cons_of_mem _ hq))
/-- sorted cells of entries with names apart -/
theorem cells_sorted {ps : List EC} {qs : List Cell} (nd : (ps.map (·.2.name)).Nodup) (pm : qs.Perm (ps.map cellE)) (pw : qs.Pairwise fun x y => leD (fun p : Cell => p.2) x y = true) :
    ∃ rs : List EC, qs = rs.map cellE ∧ rs.Perm ps ∧ rs.map (·.2) = sortE (ps.map (·.2)) := by
  obtain ⟨rs, p, rfl⟩ := lift_perm _ _ pm
  have pw : rs.Pairwise fun x y => leD (fun p : Cell => p.2) (cellE x) (cellE y) = true := List.pairwise_map.mp pw
  have nr : (rs.map (·.2.name)).Nodup := ((p.map (·.2.name)).nodup_iff).mpr nd
  have nr : rs.Pairwise fun x y => x.2.name ≠ y.2.name := List.pairwise_map.mp nr
  refine ⟨rs, rfl, p, sortE_of (p.map (·.2)) (by rw [List.map_map]; exact nd) (List.pairwise_map.mpr ?_)⟩
  exact (pw.and nr).imp fun {x y} ⟨a, b⟩ => by rwa [le_ent b] at a
theorem nodup_cells {ps : List EC} (nd : (ps.map (·.2.name)).Nodup) : (ps.map cellE).Nodup ∧ ∀ p ∈ ps, ∀ q ∈ ps, keyD (cellE p).2 = keyD (cellE q).2 → cellE p = cellE q := by
  have inj : ∀ p ∈ ps, ∀ q ∈ ps, p.2.name = q.2.name → p = q := by
    induction ps with
    | nil => exact fun p h => by cases h
    | cons x ps ih =>
      rw [List.map_cons] at nd
      obtain ⟨n1, n2⟩ := List.nodup_cons.mp nd
      intro p hp q hq e
      rcases List.mem_cons.mp hp with hp1 | hp1
      · rcases List.mem_cons.mp hq with hq1 | hq1
        · rw [hp1, hq1]
        · exact absurd (List.mem_map.mpr ⟨q, hq1, by rw [← e, hp1]⟩) n1
      · rcases List.mem_cons.mp hq with hq1 | hq1
        · exact absurd (List.mem_map.mpr ⟨p, hp1, by rw [e, hq1]⟩) n1
        · exact ih n2 p hp1 q hq1 e
  refine ⟨?_, fun p hp q hq e => by rw [inj p hp q hq (key_name e)]⟩
  have z : (ps.map cellE).map (fun c => keyD c.2) = ps.map fun p => keyD (dEnt p.2) := by rw [List.map_map]; rfl
  refine L2.nodup_of_map (f := fun c => keyD c.2) ?_
  rw [z]
  refine List.pairwise_map.mpr ((List.pairwise_map.mp nd).imp fun {a b} h e => h (key_name e))
/-- what a set has of such cells -/
theorem set_cells {ps : List EC} {qs : List Cell} (nd : (ps.map (·.2.name)).Nodup) (sub : ∀ q ∈ qs, q ∈ ps.map cellE) (all : ∀ p ∈ ps.map cellE, keyD p.2 ∈ qs.map fun q => keyD q.2) (nq : (qs.map fun q => keyD q.2).Nodup) : qs.Perm (ps.map cellE) := by
  obtain ⟨n1, n2⟩ := nodup_cells nd
  refine (List.perm_ext_iff_of_nodup (L2.nodup_of_map nq) n1).mpr fun c => ⟨sub c, fun hc => ?_⟩
  obtain ⟨q, hq, e⟩ := List.mem_map.mp (all c hc)
  obtain ⟨p, hp, rfl⟩ := List.mem_map.mp hc
  obtain ⟨p', hp', rfl⟩ := List.mem_map.mp (sub q hq)
  rw [← n2 p' hp' p hp e]
  exact hq
theorem alike_cells (ps : List EC) : AllAlike ((ps.map cellE).map (·.2)) := by
  intro d hd d' hd'
  rw [List.map_map] at hd hd'
  obtain ⟨p, _, rfl⟩ := List.mem_map.mp hd
  obtain ⟨q, _, rfl⟩ := List.mem_map.mp hd'
  exact alike_ent _ _
theorem sortable_cells (ps : List EC) : Sortable ((ps.map cellE).map (·.2)) := .inl fun d hd => by
  rw [List.map_map] at hd
  obtain ⟨p, _, rfl⟩ := List.mem_map.mp hd
  exact ⟨_, _, rfl⟩
end Kn


/-! Kn: how large data is. -/
namespace Kn
open PySem PySem.Spec PyProof.Rows L2
mutual
def goodD : PyData → Bool
  | .none => true
  | .bool _ => true
  | .int i => decide (i.natAbs < 10 ^ 60)
  | .str x => x.cps.toList.all fun c => decide (c < 128)
  | .list ds => goodDs ds
  | .tuple ds => goodDs ds
  | .dict _ => false
def goodDs : List PyData → Bool
  | [] => true
  | d :: r => goodD d && goodDs r
end
mutual
def nodesD : PyData → Nat
  | .none => 1
  | .bool _ => 1
  | .int _ => 1
  | .str x => 1 + x.length
  | .list ds => 1 + nodesDs ds
  | .tuple ds => 1 + nodesDs ds
  | .dict _ => 1
def nodesDs : List PyData → Nat
  | [] => 0
  | d :: r => nodesD d + nodesDs r
end
theorem good_app : ∀ a b : List PyData, goodDs (a ++ b) = (goodDs a && goodDs b)
  | [], b => by rw [List.nil_append]; show _ = (true && goodDs b); rw [Bool.true_and]
  | d :: r, b => by
    show (goodD d && goodDs (r ++ b)) = (goodD d && goodDs r && goodDs b)
    rw [good_app r b, Bool.and_assoc]
theorem nodes_app : ∀ a b : List PyData, nodesDs (a ++ b) = nodesDs a + nodesDs b
  | [], b => by rw [List.nil_append]; show _ = 0 + nodesDs b; rw [Nat.zero_add]
  | d :: r, b => by
    show nodesD d + nodesDs (r ++ b) = nodesD d + nodesDs r + nodesDs b
    rw [nodes_app r b, Nat.add_assoc]
theorem depth_app : ∀ a b : List PyData, PyData.depthAll (a ++ b) = max (PyData.depthAll a) (PyData.depthAll b)
  | [], b => by rw [List.nil_append]; show _ = max 0 (PyData.depthAll b); rw [Nat.zero_max]
  | d :: r, b => by
    show max d.depth (PyData.depthAll (r ++ b)) = max (max d.depth (PyData.depthAll r)) (PyData.depthAll b)
    rw [depth_app r b, Nat.max_assoc]
theorem nodes_len : ∀ ds : List PyData, ds.length ≤ nodesDs ds
  | [] => Nat.le_refl _
  | d :: r => by
    have h := nodes_len r
    have p : 1 ≤ nodesD d := by
      cases d <;> first | exact Nat.le_refl 1 | exact Nat.le_add_right 1 _
    show r.length + 1 ≤ nodesD d + nodesDs r
    omega
/-- few, good and flat enough -/
structure Tm (n k : Nat) (ds : List PyData) : Prop where
  g : goodDs ds = true
  n : nodesDs ds ≤ n
  d : PyData.depthAll ds ≤ k
theorem Tm.mono {n k n' k' : Nat} {ds : List PyData} (h : Tm n k ds) (a : n ≤ n') (b : k ≤ k') : Tm n' k' ds := ⟨h.g, Nat.le_trans h.n a, Nat.le_trans h.d b⟩
theorem Tm.app {n m k : Nat} {a b : List PyData} (h : Tm n k a) (j : Tm m k b) : Tm (n + m) k (a ++ b) :=
  ⟨by rw [good_app, h.g, j.g]; rfl, by rw [nodes_app]; exact Nat.add_le_add h.n j.n, by rw [depth_app]; exact Nat.max_le.mpr ⟨h.d, j.d⟩⟩
theorem Tm.nil (n k : Nat) : Tm n k [] := ⟨rfl, Nat.zero_le _, Nat.zero_le _⟩
theorem Tm.split {n k : Nat} {a b : List PyData} (h : Tm n k (a ++ b)) : ∃ x y, x + y ≤ n ∧ Tm x k a ∧ Tm y k b := by
  have g := h.g
  rw [good_app] at g
  obtain ⟨g1, g2⟩ := Bool.and_eq_true_iff.mp g
  have nn := h.n
  rw [nodes_app] at nn
  have dd := h.d
  rw [depth_app] at dd
  obtain ⟨d1, d2⟩ := Nat.max_le.mp dd
  exact ⟨_, _, nn, ⟨g1, Nat.le_refl _, d1⟩, ⟨g2, Nat.le_refl _, d2⟩⟩
theorem Tm.cut {n k : Nat} {ds : List PyData} (h : Tm n k ds) (i : Nat) : ∃ x y, x + y ≤ n ∧ Tm x k (ds.take i) ∧ Tm y k (ds.drop i) := Tm.split (by rw [List.take_append_drop]; exact h)
theorem Tm.take {n k : Nat} {ds : List PyData} (h : Tm n k ds) (i : Nat) : Tm n k (ds.take i) := by
  obtain ⟨x, y, l, a, _⟩ := h.cut i
  exact a.mono (by omega) (Nat.le_refl _)
theorem Tm.drop {n k : Nat} {ds : List PyData} (h : Tm n k ds) (i : Nat) : Tm n k (ds.drop i) := by
  obtain ⟨x, y, l, _, b⟩ := h.cut i
  exact b.mono (by omega) (Nat.le_refl _)
theorem Tm.rev {n k : Nat} : ∀ {ds : List PyData}, Tm n k ds → Tm n k ds.reverse := by
  have all : ∀ ds : List PyData, goodDs ds.reverse = goodDs ds ∧ nodesDs ds.reverse = nodesDs ds ∧ PyData.depthAll ds.reverse = PyData.depthAll ds := by
    intro ds
    induction ds with
    | nil => exact ⟨rfl, rfl, rfl⟩
    | cons d r ih =>
      obtain ⟨a, b, c⟩ := ih
      rw [List.reverse_cons, good_app, nodes_app, depth_app, a, b, c]
      refine ⟨?_, ?_, ?_⟩
      · show (goodDs r && (goodD d && true)) = (goodD d && goodDs r)
        rw [Bool.and_true, Bool.and_comm]
      · show nodesDs r + (nodesD d + 0) = nodesD d + nodesDs r
        omega
      · show max (PyData.depthAll r) (max d.depth 0) = max d.depth (PyData.depthAll r)
        rw [Nat.max_zero, Nat.max_comm]
  intro ds h
  obtain ⟨a, b, c⟩ := all ds
  exact ⟨by rw [a]; exact h.g, by rw [b]; exact h.n, by rw [c]; exact h.d⟩
theorem Tm.one {n k : Nat} {d : PyData} (g : goodD d = true) (hn : nodesD d ≤ n) (hk : d.depth ≤ k) : Tm n k [d] := by
  refine ⟨?_, ?_, ?_⟩
  · show (goodD d && true) = true
    rw [g]
    rfl
  · show nodesD d + 0 ≤ n
    omega
  · show max d.depth 0 ≤ k
    omega
theorem Tm.get {n k : Nat} {ds : List PyData} (h : Tm n k ds) {i : Nat} {d : PyData} (e : ds[i]? = some d) : goodD d = true ∧ nodesD d ≤ n ∧ d.depth ≤ k := by
  have q := (h.drop i).take 1
  have e2 : (ds.drop i).take 1 = [d] := by
    rw [List.take_one, List.head?_drop, e]
    rfl
  rw [e2] at q
  obtain ⟨g, b, c⟩ := q
  refine ⟨?_, ?_, ?_⟩
  · have g : (goodD d && true) = true := g
    rw [Bool.and_true] at g
    exact g
  · have b : nodesD d + 0 ≤ n := b
    omega
  · have c : max d.depth 0 ≤ k := c
    omega
end Kn


/-! Kn: what good data shows, and that it can be compared. -/
namespace Kn
open PySem PySem.Spec PyProof.Rows L2
theorem ascii_fit {x : Str} (h : (x.cps.toList.all fun c => decide (c < 128)) = true) : Fit x.length x := ⟨Nat.le_refl _, fun c hc => Nat.lt_trans (of_decide_eq_true (List.all_eq_true.mp h c hc)) (by decide)⟩
theorem sum_map {ds : List Str} : (ds.map (·.length)).sum = (ds.map (·.length)).sum := rfl
mutual
theorem good_shown : ∀ d : PyData, goodD d = true → d.showable = true ∧ d.hasDict = false ∧ d.shown.length + 2 ≤ 80 * nodesD d
  | .none, _ => ⟨rfl, rfl, by decide +kernel⟩
  | .bool b, _ => by
    refine ⟨rfl, rfl, ?_⟩
    cases b <;> decide +kernel
  | .int i, h => by
    have h : i.natAbs < 10 ^ 60 := of_decide_eq_true h
    refine ⟨by show decide _ = true; exact decide_eq_true (fee_log h), rfl, ?_⟩
    have q : (feeT i).length ≤ 61 := (feeT_fit h).1
    show (feeT i).length + 2 ≤ 80 * 1
    omega
  | .str x, h => by
    refine ⟨rfl, rfl, ?_⟩
    have q := StrLaws.reprText_len x (ascii_fit h).2
    show (reprText x).length + 2 ≤ 80 * (1 + x.length)
    omega
  | .list ds, h => by
    obtain ⟨a, b, c, e⟩ := good_all ds h
    refine ⟨a, b, ?_⟩
    have q := listText_len_le (PyData.shownAll ds)
    rw [e] at q
    show (listText (PyData.shownAll ds)).length + 2 ≤ 80 * (1 + nodesDs ds)
    omega
  | .tuple ds, h => by
    obtain ⟨a, b, c, e⟩ := good_all ds h
    refine ⟨a, b, ?_⟩
    have q := tupleText_len_le (PyData.shownAll ds)
    rw [e] at q
    show (tupleText (PyData.shownAll ds)).length + 2 ≤ 80 * (1 + nodesDs ds)
    omega
  | .dict _, h => by cases h
theorem good_all : ∀ ds : List PyData, goodDs ds = true → PyData.showableAll ds = true ∧ PyData.hasDictAll ds = false ∧ ((PyData.shownAll ds).map (·.length)).sum + 2 * ds.length ≤ 80 * nodesDs ds ∧ (PyData.shownAll ds).length = ds.length
  | [], _ => ⟨rfl, rfl, Nat.zero_le _, rfl⟩
  | d :: r, h => by
    have h : (goodD d && goodDs r) = true := h
    obtain ⟨h1, h2⟩ := Bool.and_eq_true_iff.mp h
    obtain ⟨a1, b1, c1⟩ := good_shown d h1
    obtain ⟨a2, b2, c2, e2⟩ := good_all r h2
    refine ⟨?_, ?_, ?_, ?_⟩
    · show (d.showable && PyData.showableAll r) = true
      rw [a1, a2]
      rfl
    · show (d.hasDict || PyData.hasDictAll r) = false
      rw [b1, b2]
      rfl
    · show ((d.shown :: PyData.shownAll r).map (·.length)).sum + 2 * (r.length + 1) ≤ 80 * (nodesD d + nodesDs r)
      rw [List.map_cons, List.sum_cons]
      omega
    · show (d.shown :: PyData.shownAll r).length = r.length + 1
      rw [List.length_cons, e2]
end
mutual
theorem good_lay : ∀ d : PyData, goodD d = true → d.canLay0 = true
  | .none, _ => rfl
  | .bool _, _ => rfl
  | .int _, _ => rfl
  | .str x, h => by
    show x.cps.all (· < 0x110000) = true
    rw [← Array.all_toList]
    exact List.all_eq_true.mpr fun c hc => decide_eq_true (Nat.lt_trans (of_decide_eq_true (List.all_eq_true.mp h c hc)) (by decide))
  | .list ds, h => good_lays ds h
  | .tuple ds, h => good_lays ds h
  | .dict _, h => by cases h
theorem good_lays : ∀ ds : List PyData, goodDs ds = true → PyData.canLayAll0 ds = true
  | [], _ => rfl
  | d :: r, h => by
    have h : (goodD d && goodDs r) = true := h
    obtain ⟨h1, h2⟩ := Bool.and_eq_true_iff.mp h
    show (d.canLay0 && PyData.canLayAll0 r) = true
    rw [good_lay d h1, good_lays r h2]
    rfl
end
theorem good_shaped {d : PyData} (h : goodD d = true) (l : d.depth ≤ 64) : SeqAt.shaped d = true := by
  unfold SeqAt.shaped
  rw [good_lay d h, decide_eq_true l]
  rfl
end Kn


/-! Kn: names, tables, kinds among any data. -/
namespace Kn
open PySem PySem.Spec PyProof.Rows L2
def lowB (x : Str) : Bool := x.cps.toList.all fun c => decide (97 ≤ c ∧ c ≤ 122)
def nameB : PyData → Bool
  | .str x => decide (1 ≤ x.length) && decide (x.length ≤ 8) && lowB x
  | _ => false
def ltD : PyData → PyData → Bool
  | .str x, .str y => decide (x.cps.toList < y.cps.toList)
  | _, _ => false
/-- the k-th is a name, and behind the one ahead of it -/
def okAt (ds : List PyData) (k : Nat) : Bool := nameB (ds.getD k .none) && (k == 0 || ltD (ds.getD (k - 1) .none) (ds.getD k .none))
def rowB : PyData → Bool
  | .tuple ds => (List.range ds.length).all (okAt ds)
  | _ => false
def kindB : PyData → Bool
  | .tuple [n, f, h, t] => nameB n && posB f && boolB h && rowB t
  | _ => false
def part (d : PyData) (k : Nat) : PyData := match d with
  | .tuple ds => ds.getD k .none
  | _ => .none
/-- the k-th is a kind, and behind the one ahead of it -/
def kindAt (ds : List PyData) (k : Nat) : Bool := kindB (ds.getD k .none) && (k == 0 || ltD (part (ds.getD (k - 1) .none) 0) (part (ds.getD k .none) 0))
theorem sign_facts : ∀ c : Nat, c < 128 → (Unicode.isAlpha c = (Unicode.isLower c || Unicode.isUpper c)) ∧ Unicode.isTitle c = false ∧ Unicode.isLower c = decide (97 ≤ c ∧ c ≤ 122) ∧ (Unicode.isLower c = true → Unicode.isUpper c = false) := by
  have all : ((List.range 128).all fun c => decide (Unicode.isAlpha c = (Unicode.isLower c || Unicode.isUpper c)) && decide (Unicode.isTitle c = false) && decide (Unicode.isLower c = decide (97 ≤ c ∧ c ≤ 122)) && (!Unicode.isLower c || !Unicode.isUpper c)) = true := by decide +kernel
  intro c hc
  have q := List.all_eq_true.mp all c (List.mem_range.mpr hc)
  obtain ⟨q, q4⟩ := Bool.and_eq_true_iff.mp q
  obtain ⟨q, q3⟩ := Bool.and_eq_true_iff.mp q
  obtain ⟨q1, q2⟩ := Bool.and_eq_true_iff.mp q
  refine ⟨of_decide_eq_true q1, of_decide_eq_true q2, of_decide_eq_true q3, fun z => ?_⟩
  rw [z] at q4
  simpa using q4
theorem low_is {x : Str} (h : (x.cps.toList.all fun c => decide (c < 128)) = true) : (Txt.isalpha x && Txt.islower x) = (decide (1 ≤ x.length) && lowB x) := by
  have e1 : Txt.isalpha x = (decide (x.length > 0) && x.cps.toList.all Unicode.isAlpha) := by
    show (decide (x.length > 0) && x.cps.all Unicode.isAlpha) = _
    rw [← Array.all_toList]
  have e2 : Txt.islower x = (x.cps.toList.any Unicode.isLower && !x.cps.toList.any fun c => Unicode.isUpper c || Unicode.isTitle c) := by
    show (x.cps.any Unicode.isLower && !x.cps.any fun c => Unicode.isUpper c || Unicode.isTitle c) = _
    rw [← Array.any_toList, ← Array.any_toList]
  have el : x.length = x.cps.toList.length := by
    show x.cps.size = _
    rw [← Array.length_toList]
  rw [e1, e2, el]
  unfold lowB
  generalize x.cps.toList = l at h
  have all : ∀ l : List Nat, (l.all fun c => decide (c < 128)) = true → (l.all Unicode.isAlpha && !l.any fun c => Unicode.isUpper c || Unicode.isTitle c) = l.all fun c => decide (97 ≤ c ∧ c ≤ 122) := by
    intro l
    induction l with
    | nil => exact fun _ => rfl
    | cons c r ih =>
      intro h
      obtain ⟨h1, h2⟩ := Bool.and_eq_true_iff.mp (show (decide (c < 128) && r.all fun c => decide (c < 128)) = true from h)
      obtain ⟨f1, f2, f3, f4⟩ := sign_facts c (of_decide_eq_true h1)
      have ih := ih h2
      show ((Unicode.isAlpha c && r.all Unicode.isAlpha) && !((Unicode.isUpper c || Unicode.isTitle c) || r.any fun c => Unicode.isUpper c || Unicode.isTitle c)) = (decide (97 ≤ c ∧ c ≤ 122) && r.all fun c => decide (97 ≤ c ∧ c ≤ 122))
      rw [← ih, ← f3, f1, f2]
      revert f4
      cases Unicode.isLower c <;> cases Unicode.isUpper c <;> cases r.all Unicode.isAlpha <;> cases (r.any fun c => Unicode.isUpper c || Unicode.isTitle c) <;> simp
  cases l with
  | nil => rfl
  | cons c r =>
    have q := all (c :: r) h
    rw [← q]
    have pos : decide ((c :: r).length > 0) = true := decide_eq_true (Nat.succ_pos _)
    have pos2 : decide (1 ≤ (c :: r).length) = true := decide_eq_true (Nat.succ_pos _)
    rw [pos, pos2, Bool.true_and, Bool.true_and]
    obtain ⟨h1, h2⟩ := Bool.and_eq_true_iff.mp (show (decide (c < 128) && r.all fun c => decide (c < 128)) = true from h)
    obtain ⟨f1, f2, f3, f4⟩ := sign_facts c (of_decide_eq_true h1)
    show ((Unicode.isAlpha c && r.all Unicode.isAlpha) && ((Unicode.isLower c || r.any Unicode.isLower) && !((Unicode.isUpper c || Unicode.isTitle c) || r.any fun c => Unicode.isUpper c || Unicode.isTitle c))) = ((Unicode.isAlpha c && r.all Unicode.isAlpha) && !((Unicode.isUpper c || Unicode.isTitle c) || r.any fun c => Unicode.isUpper c || Unicode.isTitle c))
    rw [f1, f2]
    cases Unicode.isLower c <;> cases Unicode.isUpper c <;> cases r.all Unicode.isAlpha <;> cases (r.any fun c => Unicode.isUpper c || Unicode.isTitle c) <;> simp
end Kn


/-! Kn: a comprehension with a filter over a tuple; a text among texts. -/
namespace Kn
open PySem PySem.Spec PyProof.Rows L2
theorem lc_pickT {K : PySem.W.Frag} {a : Addr} {xs : List V} {slot : Nat} {te tl : TE} {tt : TT} {vs : List Nat} {σ : L2.St} {H : Hp} {Q : VK} (ys : List (Bool × V)) (hl : ys.length = xs.length) (hs : xs.length ≤ 1000) (hT : SqT K H a xs)
    (htl : ∀ R : VK, R (.ref a) H → tl σ H R) (w : ∀ v, wipe ((wipe σ vs).set slot (some v)) vs = wipe σ vs)
    (test : ∀ (i : Nat) (x : V) (b : Bool) (y : V) (G : Hp) (R : Bool → Hp → Prop), xs[i]? = some x → ys[i]? = some (b, y) → Same H G → R b G → tt ((wipe σ vs).set slot (some x)) G R)
    (turn : ∀ (i : Nat) (x : V) (b : Bool) (y : V) (G : Hp) (R : VK), xs[i]? = some x → ys[i]? = some (b, y) → Same H G → R y G → te ((wipe σ vs).set slot (some x)) G R)
    (done : ∀ (D : Addr) (G : Hp), H D = none → Same H G → G D = some (.lst ((ys.filter (·.1)).map (·.2))) → Q (.ref D) G) : tLc (iTup K tl) (gName slot) tt te vs σ H Q := by
  refine htl _ ⟨a, rfl, ⟨xs, hT⟩, fun D nD => ?_⟩
  refine lc_tup (K := K) (a := a) (xs := xs) (fun i G => Same H G ∧ G D = some (.lst (((ys.take i).filter (·.1)).map (·.2)))) ⟨same_new nD, upd_same⟩ (fun i G _ h => tupS h.1 hT) ?_ ?_
  · rintro i x G hx ⟨sm, hD⟩
    have hi : i < xs.length := (List.getElem?_eq_some_iff.mp hx).1
    have hy : ys[i]? = some (ys[i]'(by omega)) := List.getElem?_eq_getElem (by omega)
    have et : ys.take (i + 1) = ys.take i ++ [ys[i]'(by omega)] := by
      rw [List.take_add_one, hy]
      rfl
    refine ⟨w x, ?_⟩
    generalize ys[i]'(by omega) = by_ at hy et
    obtain ⟨b, y⟩ := by_
    refine test i x b y G _ hx hy sm ?_
    cases b
    · refine iteF ⟨sm, ?_⟩
      rw [hD, et, List.filter_append]
      simp
    · refine iteT (turn i x true y G _ hx hy sm ⟨_, hD, ?_, putS sm nD, ?_⟩)
      · rw [List.length_map]
        have := List.length_filter_le (·.1) (ys.take i)
        rw [List.length_take] at this
        exact small' (by omega)
      · rw [upd_same, et, List.filter_append, List.map_append]
        rfl
  · rintro G ⟨sm, hD⟩
    refine done D G nD sm ?_
    rw [hD, List.take_of_length_le (by omega)]
theorem inV_strs (n : Str) : ∀ t : List Str, inV (.str n) (t.map V.str) = decide (n ∈ t)
  | [] => by
    symm
    simp [inV]
  | a :: r => by
    have ih := inV_strs n r
    show ((a == n) || inV (.str n) (r.map V.str)) = _
    rw [ih]
    by_cases h : a = n
    · simp [h]
    · have h2 : ¬ n = a := fun z => h z.symm
      simp [h, h2]
theorem flat_strs (t : List Str) : (t.map V.str).all flatV = true := by
  simp [flatV]
end Kn


/-! Kn: a filter over a tuple whose test may make objects; rows of names. -/
namespace Kn
open PySem PySem.Spec PyProof.Rows L2
theorem lc_filtT {K : PySem.W.Frag} {a : Addr} {xs : List V} {slot : Nat} {te tl : TE} {tt : TT} {vs : List Nat} {σ : L2.St} {H : Hp} {Q : VK} (f : PyData → Bool) (ds : List PyData) (hT : SqT K H a xs) (hd : DpAll K H xs ds) (few : xs.length ≤ 1000)
    (htl : ∀ R : VK, R (.ref a) H → tl σ H R) (w : ∀ v, wipe ((wipe σ vs).set slot (some v)) vs = wipe σ vs)
    (test : ∀ (i : Nat) (x : V) (d : PyData) (G : Hp) (R : Bool → Hp → Prop), xs[i]? = some x → ds[i]? = some d → Dp K G x d → Same H G → (∀ G', Same G G' → R (f d) G') → tt ((wipe σ vs).set slot (some x)) G R)
    (turn : ∀ (x : V) (G : Hp) (R : VK), R x G → te ((wipe σ vs).set slot (some x)) G R)
    (done : ∀ (D : Addr) (ws : List V) (G : Hp), H D = none → Same H G → G D = some (.lst ws) → DpAll K G ws (ds.filter f) → Q (.ref D) G) : tLc (iTup K tl) (gName slot) tt te vs σ H Q := by
  refine htl _ ⟨a, rfl, ⟨xs, hT⟩, fun D nD => ?_⟩
  refine lc_tup (K := K) (a := a) (xs := xs) (fun i G => Same H G ∧ ∃ ws, G D = some (.lst ws) ∧ DpAll K H ws ((ds.take i).filter f)) ⟨same_new nD, [], upd_same, .nil⟩ (fun i G _ h => tupS h.1 hT) ?_ ?_
  · rintro i x G hx ⟨sm, ws, eD, hw⟩
    have hi : i < xs.length := (List.getElem?_eq_some_iff.mp hx).1
    obtain ⟨d, hdi, dp⟩ := dsAt hd i x hx
    have et : (ds.take (i + 1)).filter f = (ds.take i).filter f ++ (if f d = true then [d] else []) := by
      rw [List.take_add_one, hdi, List.filter_append]
      show _ ++ [d].filter f = _
      rw [List.filter_cons]
      cases f d <;> rfl
    refine ⟨w x, ?_⟩
    refine test i x d G _ hx hdi (dKeep sm dp) sm fun G' s' => ?_
    cases z : f d
    · refine iteF ⟨sm.trans s', ws, s' _ _ eD, ?_⟩
      rw [et, z]
      simpa using hw
    · refine iteT (turn x G' _ ⟨ws, s' _ _ eD, ?_, putS (sm.trans s') nD, ws ++ [x], upd_same, ?_⟩)
      · have h1 := dsLen hw
        have h2 := List.length_filter_le f (ds.take i)
        have h3 := dsLen hd
        rw [List.length_take] at h2
        exact small' (by omega)
      · rw [et, z]
        exact dsApp hw (.cons dp .nil)
  · rintro G ⟨sm, ws, eD, hw⟩
    rw [List.take_of_length_le (by rw [dsLen hd]; exact Nat.le_refl _)] at hw
    exact done D ws G nD sm eD (dsKeep sm hw)
theorem eqv_nil2 (ds : List PyData) : PyData.eqv (.list ds) (.list []) = ds.isEmpty := by
  cases ds with
  | nil => rfl
  | cons d r => rfl
theorem filter_none {α : Type} (f : α → Bool) : ∀ ds : List α, (ds.filter fun d => !f d).isEmpty = ds.all f
  | [] => rfl
  | d :: r => by
    rw [List.filter_cons, List.all_cons]
    cases f d
    · rfl
    · exact filter_none f r
theorem goodFilter (b : PyData → Bool) : ∀ {ds : List PyData}, goodDs ds = true → goodDs (ds.filter b) = true
  | [], _ => rfl
  | d :: r, h => by
    obtain ⟨h1, h2⟩ := Bool.and_eq_true_iff.mp (show (goodD d && goodDs r) = true from h)
    have ih := goodFilter b h2
    rw [List.filter_cons]
    cases b d
    · exact ih
    · show (goodD d && goodDs (r.filter b)) = true
      rw [h1, ih]
      rfl
theorem depthFilter (b : PyData → Bool) : ∀ (ds : List PyData), PyData.depthAll (ds.filter b) ≤ PyData.depthAll ds
  | [] => Nat.le_refl _
  | d :: r => by
    have ih := depthFilter b r
    rw [List.filter_cons]
    show _ ≤ max d.depth (PyData.depthAll r)
    cases b d
    · exact Nat.le_trans ih (Nat.le_max_right _ _)
    · show max d.depth (PyData.depthAll (r.filter b)) ≤ _
      omega
theorem gd_at {ds : List PyData} {k : Nat} {d : PyData} (h : ds[k]? = some d) : ds.getD k .none = d := by
  rw [List.getD_eq_getElem?_getD, h]
  rfl
theorem row_no {ds : List PyData} {k : Nat} (hk : k < ds.length) (h : okAt ds k = false) : rowB (.tuple ds) = false := by
  show (List.range ds.length).all (okAt ds) = false
  rw [List.all_eq_false]
  exact ⟨k, List.mem_range.mpr hk, by rw [h]; exact Bool.false_ne_true⟩
theorem row_yes {ds : List PyData} (h : ∀ k, k < ds.length → okAt ds k = true) : rowB (.tuple ds) = true :=
  List.all_eq_true.mpr fun k hk => h k (List.mem_range.mp hk)
theorem row_split (ds : List PyData) : rowB (.tuple ds) = (ds.all nameB && (List.range (ds.length - 1)).all fun j => ltD (ds.getD j .none) (ds.getD (j + 1) .none)) := by
  rw [Bool.eq_iff_iff, Bool.and_eq_true]
  constructor
  · intro h
    have h : ∀ k, k < ds.length → okAt ds k = true := fun k hk => List.all_eq_true.mp h k (List.mem_range.mpr hk)
    refine ⟨List.all_eq_true.mpr fun d hd => ?_, List.all_eq_true.mpr fun j hj => ?_⟩
    · obtain ⟨k, hk, e⟩ := List.getElem_of_mem hd
      have q := (Bool.and_eq_true_iff.mp (h k hk)).1
      rw [gd_at (List.getElem?_eq_getElem hk), e] at q
      exact q
    · have hj := List.mem_range.mp hj
      have q := (Bool.and_eq_true_iff.mp (h (j + 1) (by omega))).2
      rw [Bool.or_eq_true] at q
      rcases q with q | q
      · exact absurd (beq_iff_eq.mp q) (by omega)
      · exact q
  · rintro ⟨h1, h2⟩
    refine row_yes fun k hk => ?_
    have q1 := List.all_eq_true.mp h1 _ (List.getElem_mem hk)
    show (nameB (ds.getD k .none) && (k == 0 || ltD (ds.getD (k - 1) .none) (ds.getD k .none))) = true
    rw [gd_at (List.getElem?_eq_getElem hk), q1, Bool.true_and]
    cases k with
    | zero => rfl
    | succ j =>
      have q2 := List.all_eq_true.mp h2 j (List.mem_range.mpr (by omega))
      rw [gd_at (List.getElem?_eq_getElem hk)] at q2
      show (false || ltD (ds.getD j .none) ds[j + 1]) = true
      rw [q2]
      rfl
theorem az_in : ∀ c : Nat, c < 128 → decide (c ∈ ("abcdefghijklmnopqrstuvwxyz" : Str).cps.toList) = decide (97 ≤ c ∧ c ≤ 122) := by
  have all : ((List.range 128).all fun c => decide (decide (c ∈ ("abcdefghijklmnopqrstuvwxyz" : Str).cps.toList) = decide (97 ≤ c ∧ c ≤ 122))) = true := by decide +kernel
  intro c hc
  exact of_decide_eq_true (List.all_eq_true.mp all c (List.mem_range.mpr hc))
end Kn


/-! En: enumerate(t), t a tuple. -/
namespace En
open PySem PySem.Spec PyProof.Rows L2
open AutoSeq1 (wpAny_loadPart')
theorem made_tup (t : Addr) (xs : Array Value) (n : Nat) (dct : Option Addr) (sl : Array (Option Value)) :
    Meets (Builtin.«enumerate.__new__» ⟨[.type "enumerate", .ref t], []⟩) (fun _ R s => s.heap.get? t = some { cls := .type "tuple", dict := dct, data := .seq xs n, slots := sl } ∧
      R (.ok (.ret (.ref (s.heap.push { cls := .type "tuple_iterator", data := .fields #[.ref t, .int 0 0] }).objs.size)))
        { s with heap := (s.heap.push { cls := .type "tuple_iterator", data := .fields #[.ref t, .int 0 0] }).push { cls := .type "enumerate", data := .fields #[.none, .bool false, .ref s.heap.objs.size, rawInt 0, .none, .none] } }) :=
  .of_wp fun prog w A R s told => by
    obtain ⟨hp, g, d, tk, os⟩ := s
    obtain ⟨ht, q⟩ := told
    have hsub := sub_enumerate
    have isT : Heap.IsTuple (Shared.heap ⟨hp, g, d, tk, os⟩) t xs := ⟨_, ht, rfl, n, rfl⟩
    wp_walk using wpAny_loadPart' ht
    refine wpAny_stack_any fun st => wpAny_pure ?_
    split
    · rename_i c _ _ _ _ _
      cases (c == Value.type "enumerate") <;> (wp_walk using wpAny_loadPart' ht, wpAny_pyIter_tuple isT; exact ⟨_, rfl, q⟩)
    · wp_walk using wpAny_loadPart' ht, wpAny_pyIter_tuple isT
      exact ⟨_, rfl, q⟩
section
variable {prog : Program} {w : World} {A : Around} {E : Value → Shared → Prop} {s : Shared}
theorem call_tup {t : Addr} {xs : Array Value} {Q : Value → Shared → Prop} (isT : s.heap.IsTuple t xs)
    (q : ∀ h', IsEnum h' (s.heap.objs.size + 1) s.heap.objs.size 0 .none → h'.IsTupleIter s.heap.objs.size t 0 → (∀ b o, s.heap.get? b = some o → h'.get? b = some o) → Q (.ref (s.heap.objs.size + 1)) { s with heap := h' }) :
    wpAny (model prog w) A (call (.type "enumerate") [.ref t]) Q E s := by
  obtain ⟨⟨c, dct, dt, sl⟩, ht, hc, n, hd⟩ := isT
  obtain rfl : c = .type "tuple" := hc
  obtain rfl : dt = .seq xs n := hd
  refine callType_new F.called_enumerate (by decide) (F.typeCall_enumerate_1 _) (F.newCall_enumerate_1 _) (fun obj => F.args_object_init_2 obj _) F.entry_enumerate_new (made_tup t xs n dct sl) ⟨ht, ?_⟩
  have z : (s.heap.push { cls := .type "tuple_iterator", data := .fields #[.ref t, .int 0 0] }).objs.size = s.heap.objs.size + 1 := Heap.size_push ..
  show _ ∧ _
  rw [z]
  have he : IsEnum ((s.heap.push { cls := .type "tuple_iterator", data := .fields #[.ref t, .int 0 0] }).push { cls := .type "enumerate", data := .fields #[.none, .bool false, .ref s.heap.objs.size, rawInt 0, .none, .none] })
      (s.heap.objs.size + 1) s.heap.objs.size 0 .none := by
    have y := Heap.get?_push_size (s.heap.push { cls := .type "tuple_iterator", data := .fields #[.ref t, .int 0 0] }) (o := { cls := .type "enumerate", data := .fields #[.none, .bool false, .ref s.heap.objs.size, rawInt 0, .none, .none] }) rfl
    rw [z] at y
    exact y
  exact ⟨⟨_, he, rfl⟩, q _ he ⟨_, Heap.get?_push_of_some _ (Heap.get?_push_size _ rfl), rfl, rfl⟩ fun _ _ y => Heap.get?_push_of_some _ (Heap.get?_push_of_some _ y)⟩
end
/-- the tuple at a at each turn, the item in a new pair -/
def Itu (K : PySem.W.Frag) (a : Addr) : It :=
  ⟨fun i H => ∃ (xs : List V) (x : V), SqT K H a xs ∧ xs[i]? = some x, fun i H v H' => ∃ T x, v = .ref T ∧ H T = none ∧ H' = upd H T (.tup [.int (i : Nat), x]) ∧ ∀ xs, SqT K H a xs → xs[i]? = some x, fun i H => ∃ xs : List V, SqT K H a xs ∧ xs.length = i⟩
theorem turn_tup {P : Program} {w : World} {K : PySem.W.Frag} {elts : List Expr} {kk : Nat} {tpos : Pos} (a e it : Addr) :
    Turn P w K (.Tuple elts kk tpos) (Itu K a) [e, it] e (fun i h => (∃ old, IsEnum h e it ((i : Nat) : Int) old) ∧ h.IsTupleIter it a i ∧ e ≠ it ∧ a ≠ it ∧ a ≠ e) where
  mem := by simp
  obj := fun i h st b hb => by
    obtain ⟨⟨old, he⟩, ⟨o, ho, hc, hd⟩, _⟩ := st
    rcases (show b = e ∨ b = it by simpa using hb) with rfl | rfl
    · exact ⟨_, he, fun v q => nomatch q⟩
    · exact ⟨o, ho, fun v q => by rw [hd] at q; cases q⟩
  keep := fun i h h' st k => let ⟨⟨old, he⟩, hi, hne, n2, n3⟩ := st; ⟨⟨old, k e (by simp) _ he⟩, hi.at fun o q => k it (by simp) o q, hne, n2, n3⟩
  item := by
    intro X hP hw hK hc i pins s σ H E I hf st hg
    subst hP hw hK
    obtain ⟨⟨old, he⟩, hit, hne, nit, nae⟩ := st
    obtain ⟨xs, x, hq, hx⟩ := hg
    obtain ⟨its, rv, p, hz⟩ := I.tuple hq
    have isT : s.heap.IsTuple a its.toArray := p
    obtain ⟨u, hu, ru⟩ := rv.get hx
    have hel : e < s.heap.objs.size := Heap.lt_size he
    have hil : it < s.heap.objs.size := by obtain ⟨_, q, _⟩ := hit; exact Heap.lt_size q
    have D := Draws.tuple (prog := X.prog) (w := X.w) (A := X.A.in1) (show X.A.in1.handled = none from I.ok.hd hc) it a nit its.toArray
    have hin : i < its.toArray.size := by
      rw [List.size_toArray, ← rv.length]
      exact (List.getElem?_eq_some_iff.mp hx).1
    have nef : e ∉ [it, a] := by
      intro z
      rcases List.mem_cons.mp z with z | z
      · exact hne z
      · exact nae (List.mem_singleton.mp z).symm
    refine wpAny_pyNext_enum_itemD D he ⟨hit, isT⟩ hin hne nef fun y h' tk hy ho st' hT hsz hk => ?_
    have hy : its.toArray[i]? = some y := hy
    have : some u = some y := by rw [← hy, ← hu]; simp
    cases this
    refine ⟨_, rfl, wpAny_letOwnedTupleGo_enum (s := { s with heap := h', toks := tk + 1 }) ho fun h'' he' sb => ?_⟩
    have hT2 : h''.get? s.heap.objs.size = some { cls := .type "tuple", data := .seq #[.int i tk, u] } := (sb.2 _ (Nat.ne_of_gt hel)).trans hT
    have new : ObjOk X.prog X.w (upd H s.heap.objs.size (.tup [.int (i : Nat), x])) h'' s.heap.objs.size (.tup [.int (i : Nat), x]) :=
      ⟨show 2 ≤ sizeLine by decide, [.int i tk, u], .cons ⟨_, rfl⟩ (.cons ru .nil), ⟨_, hT2, rfl, _, rfl⟩⟩
    have I1 : Inv X pins σ (upd H s.heap.objs.size (.tup [.int (i : Nat), x])) { s with heap := h'', toks := tk + 1 } :=
      I.turnedNew (ch := [e, it]) (fun b ob hb q => (sb.2 b (fun z => hb (by simp [z]))).trans (hk b ob (fun z => hb (by simp [z])) (fun z => hb (by simp [z])) q)) hf (Nat.le_refl _) new
    refine ⟨.ref s.heap.objs.size, _, I1, rfl, ⟨_, x, rfl, I.hok.fresh (Nat.le_refl _), rfl, fun ys hy => by rw [I.tuple_inj hy hq]; exact hx⟩, ⟨⟨u, ?_⟩, st'.1.at fun o q => (sb.2 it (Ne.symm hne)).trans q, hne, nit, nae⟩, fun b hb => ?_⟩
    · rw [show ((i + 1 : Nat) : Int) = (i : Int) + 1 by omega]
      exact he'
    · have hb' : b < s.heap.objs.size := by
        rcases (show b = e ∨ b = it by simpa using hb) with rfl | rfl
        · exact hel
        · exact hil
      rw [upd_ne (Nat.ne_of_lt hb')]
      exact (hf b hb).1
  done := by
    intro X hP hw hK hc i pins s σ H E I hf st hg
    subst hP hw hK
    obtain ⟨⟨old, he⟩, hit, hne, nit, nae⟩ := st
    obtain ⟨xs, hq, hx⟩ := hg
    obtain ⟨its, rv, p, hz⟩ := I.tuple hq
    have isT : s.heap.IsTuple a its.toArray := p
    obtain ⟨f0, f1, f2, f3, f4, f5⟩ := hf it (by simp)
    have D := Draws.tuple (prog := X.prog) (w := X.w) (A := X.A.in1) (show X.A.in1.handled = none from I.ok.hd hc) it a nit its.toArray
    have many : its.toArray.size = i := by
      rw [List.size_toArray, ← rv.length]
      exact hx
    exact wpAny_pyNext_enum_endD D he (by rw [many]; exact ⟨hit, isT⟩) fun h' eb => ⟨rfl, I.turned (t' := s.toks) (fun b o hb q => eb b o hb q) f0 f1 f3 f4 f5⟩
  self := fun A i s Q E st h => let ⟨⟨_, he⟩, _⟩ := st; wpAny_pyIter_enum he h
def iEnT (K : PySem.W.Frag) (ta : TA) : TI := fun σ H R => ta σ H fun vs G => ∃ a xs, vs = [.ref a] ∧ SqT K G a xs ∧ R (Itu K a) G
theorem pi_enT {X : Cx} {e : Expr} {ta : TA} {p pos tpos : Pos} {elts : List Expr} {kk : Nat} (hg : Gl X "enumerate") (hm : X.mg "enumerate" = none) (ha : PA X [e] ta) (hs : starEach [e] X.env = [(false, eval e X.env)] := by rfl) :
    PI X (.Tuple elts kk tpos) (.Call (.Name "enumerate" p) [e] [] pos) (iEnT X.K ta) := by
  refine ⟨fun pins s σ H R I told => Call_ (ld_blt I hg hm boot_enumerate (PyProof.Rows.callWith_type1 (thn (ha.run pos pins s σ H _ I told) ?_) hs rfl))⟩
  rintro us s1 ⟨vs, H1, I1, rv, a, xs, rfl, hq, q⟩
  obtain ⟨u, rfl, rfl⟩ := vals1 rv
  obtain ⟨its, rv', isT, room⟩ := I1.tuple hq
  have lta : a < s1.heap.objs.size := by obtain ⟨_, y, _⟩ := isT; exact Heap.lt_size y
  refine call_tup isT fun h' he hit hk => wpAny_pyIter_enum he ?_
  refine ⟨s1.heap.objs.size + 1, [s1.heap.objs.size + 1, s1.heap.objs.size], _, _, H1, rfl, I1.kept (t' := s1.toks) hk, turn_tup a (s1.heap.objs.size + 1) s1.heap.objs.size, ⟨⟨.none, he⟩, hit, Nat.succ_ne_self _, Nat.ne_of_lt lta, Nat.ne_of_lt (Nat.lt_succ_of_lt lta)⟩, fun b hb => ?_, q⟩
  have le : s1.heap.objs.size ≤ b := by
    rcases (show b = s1.heap.objs.size + 1 ∨ b = s1.heap.objs.size by simpa using hb) with rfl | rfl
    · exact Nat.le_succ _
    · exact Nat.le_refl _
  exact I1.fpOk le (I1.hok.fresh le)
theorem walk_enT {K : PySem.W.Frag} {a : Addr} {xs : List V} : Walk (Itu K a) xs.length (fun H => SqT K H a xs) (YPair (fun i => some (.int (i : Nat))) (fun i => xs[i]?)) := by
  refine ⟨fun i _ hi q => ⟨xs, xs[i], q, by simp [hi]⟩, fun _ q => ⟨xs, q, rfl⟩, fun i H v H' _ q y => ?_⟩
  obtain ⟨T, x, h1, h2, h3, h4⟩ := y
  exact ⟨T, .int (i : Nat), x, h1, h2, h3, rfl, h4 xs q⟩
end En


namespace Kn
open PySem PySem.Spec PyProof.Rows L2
/-! ### t[::-1] of a tuple -/
section
variable {prog : Program} {w : World} {A : Around} {E : Value → Shared → Prop} {s : Shared}
theorem places_back (n : Nat) : Builtin.Slice.sliceAdjust none none (-1) (n : Int) = ((n : Int) - 1, -1) := by
  unfold Builtin.Slice.sliceAdjust
  rfl
theorem count_back (n : Nat) : Builtin.Slice.slicePlaces ((n : Int) - 1) (-1) (-1) = n := by
  unfold Builtin.Slice.slicePlaces
  simp
  omega
theorem fm_congr {α β : Type} {f g : α → Option β} : ∀ {l : List α}, (∀ x ∈ l, f x = g x) → l.filterMap f = l.filterMap g
  | [], _ => rfl
  | x :: r, h => by
    rw [List.filterMap_cons, List.filterMap_cons, h x (List.mem_cons_self ..), fm_congr (l := r) fun y hy => h y (List.mem_cons_of_mem _ hy)]
theorem pick_back (xs : Array Value) : ((List.range xs.size).filterMap fun (k : Nat) => xs[((xs.size : Int) - 1 + (k : Int) * -1).toNat]?).toArray = xs.toList.reverse.toArray := by
  have e : (List.range xs.size).filterMap (fun (k : Nat) => xs[((xs.size : Int) - 1 + (k : Int) * -1).toNat]?) = xs.toList.reverse := by
    have h : ∀ k ∈ List.range xs.size, xs[((xs.size : Int) - 1 + (k : Int) * -1).toNat]? = xs.toList.reverse[k]? := by
      intro k hk
      have hk := List.mem_range.mp hk
      have hl : k < xs.toList.length := by rw [Array.length_toList]; exact hk
      rw [List.getElem?_reverse hl, Array.getElem?_toList, Array.length_toList]
      congr 1
      omega
    rw [fm_congr h]
    have n : xs.size = xs.toList.reverse.length := by rw [List.length_reverse, Array.length_toList]
    rw [n]
    generalize xs.toList.reverse = ys
    induction ys with
    | nil => rfl
    | cons y r ih =>
      rw [List.length_cons, List.range_succ_eq_map, List.filterMap_cons, List.filterMap_map]
      show y :: List.filterMap (fun k => r[k]?) (List.range r.length) = y :: r
      rw [ih]
  rw [e]
theorem cut_back {sl : Addr} {vl vu vs : Value} {n : Nat} {R : Int × Int × Nat → Shared → Prop} (hs : s.heap.IsSliceOf sl vl vu vs) (pl : IsPart vl none) (pu : IsPart vu none) (ps : IsPart vs (some (-1)))
    (r : R ((n : Int) - 1, -1, n) s) : wpAny (model prog w) A (Builtin.Slice.sliceApplied (.ref sl) (pure (n : Int))) R E s := by
  obtain ⟨o, ho, _, hd⟩ := id hs
  unfold Builtin.Slice.sliceApplied Builtin.Slice.sliceFields
  refine wpAny_bind (wpAny_bind (wpAny_field ho hd (x := vl) rfl (wpAny_bind (wpAny_field ho hd (x := vu) rfl (wpAny_bind (wpAny_field ho hd (x := vs) rfl (wpAny_pure ?_)))))))
  refine wpAny_bind (HT.slicePart_ ps ?_)
  show wpAny _ _ (if ((-1 : Int) == 0) = true then _ else _) _ _ s
  rw [if_neg (by decide)]
  refine wpAny_bind (HT.slicePart_ pl (wpAny_bind (HT.slicePart_ pu (wpAny_bind (wpAny_pure ?_)))))
  show wpAny _ _ (pure (((n : Int) - 1, (-1 : Int), Builtin.Slice.slicePlaces ((n : Int) - 1) (-1) (-1)))) _ _ s
  rw [count_back]
  exact wpAny_pure r
theorem get_back {t sl : Addr} {its : Array Value} {vl vu vs : Value} {Q : Value → Shared → Prop} (ht : IsTup s.heap t its) (hs : s.heap.IsSliceOf sl vl vu vs) (pl : IsPart vl none) (pu : IsPart vu none) (ps : IsPart vs (some (-1)))
    (q : Q (.ref s.heap.objs.size) { s with heap := s.heap.push { cls := .type "tuple", data := .seq its.toList.reverse.toArray } }) (room : its.size ≤ sizeLine) : wpAny (model prog w) A (getItem (.ref t) (.ref sl)) Q E s := by
  have isSl : s.TypeIs (.ref sl) "slice" := let ⟨os, a, b, _⟩ := hs; ⟨os, a, b⟩
  have fits : sizeOk (.seq its.toList.reverse.toArray) := by
    show its.toList.reverse.toArray.size ≤ sizeLine
    rw [List.size_toArray, List.length_reverse, Array.length_toList]
    exact room
  unfold getItem
  refine wpAny_holding ?_
  refine wpAny_bind (wpAny_sequenceKey ht.typeIs (by decide) ?_)
  refine wpAny_bind (wpAny_callSpecial?_slot ht.typeIs PyProof.Rows.slot_tuple_getitem (wpAny_call_entry PyProof.Rows.slot_tuple_getitem ht.typeIs PyProof.Rows.entry_tuple_getitem ?_ (PyProof.Rows.args_tuple_getitem _ _)))
  show wpAny _ _ (Builtin.Tuple.tupleItemsOf (.ref t) >>= _) _ _ s
  refine wpAny_bind (tupleItemsOf_ ht (wpAny_bind (wpAny_typeOf isSl ?_)))
  rw [if_pos (by decide)]
  refine wpAny_bind (cut_back hs pl pu ps ?_)
  have no : ¬ (((its.size : Int) - 1 == 0 && (-1 : Int) == 1 && its.size == its.size) = true) := by
    rw [show ((-1 : Int) == 1) = false from rfl, Bool.and_false, Bool.false_and]
    exact Bool.false_ne_true
  show wpAny _ _ (if ((its.size : Int) - 1 == 0 && (-1 : Int) == 1 && its.size == its.size) = true then _ else _) _ _ s
  rw [if_neg no, pick_back]
  exact wpAny_bind (m := Builtin.Tuple.tupleExact _) (wpAny_newObj_type (wpAny_pure ⟨_, rfl, wpAny_pure q⟩) fits)
end

section
variable {X : Cx} {e : Expr} {te : TE} {k : Nat} {p1 p2 p3 pos : Pos}
def tRevT (K : PySem.W.Frag) (te : TE) : TE := fun σ H Q => te σ H fun x G => ∃ a xs, x = .ref a ∧ SqT K G a xs ∧ ∀ p, G p = none → Q (.ref p) (upd G p (.tup xs.reverse))
theorem pe_revT (he : PE X e te) : PE X (.Subscript e (.Slice none none (some (.UnaryOp .USub (.Constant (.int 1) k p1) p2)) p3) pos) (tRevT X.K te) := by
  refine ⟨fun pins s σ H Q I told => Subscript_ (thn (he.run pins s σ H _ I told) ?_)⟩
  rintro v s1 ⟨x, H1, I1, rx, a, xs, rfl, hT, q⟩
  obtain rfl : v = Value.ref a := rx
  have back : PO X (some (.UnaryOp .USub (.Constant (.int 1) k p1) p2)) (tPart (tUn (rU fun i => .int (-i)) (tC (.int 1)))) := po_some (pe_un un_neg pe_int)
  refine wpAny_Slice (thn (po_none.run pins s1 σ H1 (fun o G => o = none ∧ G = H1) I1 ⟨rfl, rfl⟩) ?_)
  rintro vl s2 ⟨l, H2, I2, pl, rfl, rfl⟩
  refine thn (po_none.run pins s2 σ H2 (fun o G => o = none ∧ G = H2) I2 ⟨rfl, rfl⟩) ?_
  rintro vu s3 ⟨u, H3, I3, pu, rfl, rfl⟩
  refine thn (back.run pins s3 σ H3 (fun o G => o = some (-1) ∧ G = H3) I3 ⟨1, rfl, -1, rfl, rfl, rfl⟩) ?_
  rintro vs s4 ⟨o, H4, I4, ps, rfl, rfl⟩
  have I5 : Inv X pins σ H4 { s4 with heap := s4.heap.push { cls := .type "slice", data := .fields #[vl, vu, vs] } } := I4.kept (t' := s4.toks) (fun _ _ y => Heap.get?_push_of_some _ y)
  obtain ⟨its, rv, isT, room⟩ := I5.tuple hT
  have many := rv.length
  show wpAny _ _ (subscriptTail e _ (.ref a) (.ref s4.heap.objs.size)) _ _ { s4 with heap := s4.heap.push { cls := .type "slice", data := .fields #[vl, vu, vs] } }
  refine tail_any (ops := [.ref a, .ref s4.heap.objs.size]) isT.typeIs PyProof.Rows.slot_tuple_getitem.lookup ?_ (by with_unfolding_all rfl)
  refine get_back isT (Heap.IsSliceOf.new _ vl vu vs) pl pu ps ?_ (by rw [List.size_toArray]; omega)
  refine ⟨.ref _, _, I5.laid (t' := s4.toks) (o := .tup xs.reverse) (fun _ _ y => Heap.get?_push_of_some _ y) (Nat.le_refl _) ?_, rfl, q _ (I5.hok.fresh (Nat.le_refl _))⟩
  exact ⟨by rw [List.length_reverse]; exact room, its.reverse, rv.reverse, IsTup.new _ _⟩
end

end Kn


namespace Kn
open PySem PySem.Spec PyProof.Rows L2
structure Def (K : PySem.W.Frag) (mg : Str → Option Value) (x : Str) (i : Nat) (ps : List Str) (f : Addr) (fd : FuncData) : Prop where
  F : Fun K x x (topS i) f fd
  b : Binds K fd ps []
  m : mg x = some (.ref f)
abbrev nThing : List Str := ["thing"]
theorem scName : FnScope nThing ["thing"] (defScope (topS 14)) := ⟨rfl, rfl, rfl, by decide +kernel, rfl, by decide +kernel, by decide +kernel⟩
structure Nice (d : PyData) : Prop where
  g : goodD d = true
  dp : d.depth ≤ 40
  n : nodesD d ≤ 1000
theorem Nice.tm {ds : List PyData} (h : Nice (.tuple ds)) : Tm 1000 39 ds := ⟨h.g, by have := h.n; show nodesDs ds ≤ 1000; have e : nodesD (.tuple ds) = 1 + nodesDs ds := rfl; omega, by have := h.dp; have e : (PyData.tuple ds).depth = PyData.depthAll ds + 1 := rfl; omega⟩
theorem Nice.get {ds : List PyData} (h : Nice (.tuple ds)) {i : Nat} {d : PyData} (e : ds[i]? = some d) : Nice d := by
  obtain ⟨a, b, c⟩ := h.tm.get e
  exact ⟨a, by omega, b⟩
theorem Nice.len {ds : List PyData} (h : Nice (.tuple ds)) : ds.length ≤ 1000 := Nat.le_trans (nodes_len ds) h.tm.n
theorem Nice.slen {x : Str} (h : Nice (.str x)) : x.length ≤ 1000 := by
  have := h.n
  have e : nodesD (.str x) = 1 + x.length := rfl
  omega
def spG (K : PySem.W.Frag) (f : PyData → Bool) : Sp := fun vs H Q _ => ∃ (v : V) (d : PyData), vs = [v] ∧ Dp K H v d ∧ Nice d ∧ ∀ H', Same H H' → Q (.bl (f d)) H'
theorem tupD {K : PySem.W.Frag} {H : Hp} {v : V} {ds : List PyData} (h : Dp K H v (.tuple ds)) : ∃ p xs, v = .ref p ∧ SqT K H p xs ∧ DpAll K H xs ds ∧ xs.length = ds.length := by
  cases h with
  | tup a b => exact ⟨_, _, rfl, a, b, dsLen b⟩
theorem getD_of {α : Type} {ds : List α} {i : Nat} {d e : α} (h : ds[i]? = some d) : ds.getD i e = d := by
  rw [List.getD_eq_getElem?_getD, h]
  rfl
theorem name_str {d : PyData} (h : nameB d = true) : ∃ x, d = .str x := by
  cases d <;> first | exact ⟨_, rfl⟩ | cases h
theorem Nice.shaped {d : PyData} (h : Nice d) : SeqAt.shaped d = true := good_shaped h.g (Nat.le_trans h.dp (by decide))
def sg (c : Nat) : V := .str ⟨#[c]⟩
def signDt (c : Nat) : PyData := .str ⟨#[c]⟩
def badC (c : Nat) : Bool := !decide (97 ≤ c ∧ c ≤ 122)
theorem dp_sgs {K : PySem.W.Frag} {H : Hp} : ∀ l : List Nat, DpAll K H (l.map sg) (l.map signDt)
  | [] => .nil
  | c :: r => .cons (.str _) (dp_sgs r)
theorem good_sgs : ∀ l : List Nat, (∀ c ∈ l, c < 128) → goodDs (l.map signDt) = true ∧ PyData.depthAll (l.map signDt) = 0
  | [], _ => ⟨rfl, rfl⟩
  | c :: r, h => by
    obtain ⟨a, b⟩ := good_sgs r fun z hz => h z (List.mem_cons_of_mem _ hz)
    have hc := h c (List.mem_cons_self ..)
    refine ⟨?_, ?_⟩
    · show (([c].all fun c => decide (c < 128)) && goodDs (r.map signDt)) = true
      rw [a, Bool.and_true]
      show (decide (c < 128) && true) = true
      rw [decide_eq_true hc]
      rfl
    · show max 0 (PyData.depthAll (r.map signDt)) = 0
      rw [b]
      rfl
abbrev nLbl : List Str := ["_law_item", "_law_sign"]
theorem scLbl : FnScope nLbl ["_law_item"] (defScope (topS 28)) := ⟨rfl, rfl, rfl, by decide +kernel, rfl, by decide +kernel, by decide +kernel⟩
section
variable {P : Program} {w : World} {K : PySem.W.Frag} {mg : Str → Option Value} {base : Heap}
theorem ok_name {f : Addr} {fd : FuncData} (F : Fun K "is_name" "is_name" (topS 14) f fd) (ml : mg "len" = none) (mi : mg "isinstance" = none) (ms : mg "str" = none) : FnOk P w K mg base CX0 1 f fd ["thing"] (spG K nameB) := by
  refine F.ok scName (fun vs H Q E h => ?_) (fun cdv A outer s H vs Q E hr h => ?_)
  · obtain ⟨v, d, rfl, _⟩ := h
    rfl
  · obtain ⟨v, d, rfl, hd, ni, q⟩ := h
    refine ⟨_, pss_cons (ps_if (PW.pt (pw_or (pt_not (pt_val (pe_callB call_isi (by rfl) mi boot_isinstance (pa_cons (pv 0) (pa_cons (pe_bltn (v := .ty "str") (by rfl) ms (by decide +kernel) rfl) pa_nil))))) (pw_or1 (pt_cmpR op_gt (pe_callB call_len_str (by rfl) ml PySem.boot_len (pa_cons (pv 0) pa_nil)) pe_int (nomark _))))) (pss_one (ps_ret pe_bl)) pss_nil)
      (pss_one (ps_ret (pe_and (pe_m0 PySem.F.slot_str_isascii PySem.F.type_str_isascii mt_isascii (pv 0)) (pe_and (pe_m0 PySem.F.slot_str_isalpha PySem.F.type_str_isalpha mt_isalpha (pv 0)) (pe_one (pe_m0 PySem.F.slot_str_islower PySem.F.type_str_islower mt_islower (pv 0))))))), ?_⟩
    have q0 := q H (Same.refl H)
    refine ⟨v, rfl, v, .ty "str", _, _, _, rfl, .ty "str", ty_of hd, kit_str, _, rfl, ?_⟩
    cases hd with
    | str x =>
      have asc : (x.cps.toList.all fun c => decide (c < 128)) = true := ni.g
      have hl := ni.slen
      refine iteF ⟨_, rfl, x, rfl, Nat.le_trans hl (by decide), x.length, 8, rfl, rfl, _, rfl, ?_⟩
      by_cases big : x.length ≤ 8
      · rw [decide_eq_false (show ¬ (8 : Int) < (x.length : Nat) by omega)]
        refine iteF ?_
        have e1 : Txt.isascii x = true := by
          show x.cps.all (· < 128) = true
          rw [← Array.all_toList]
          exact asc
        refine ⟨_, rfl, ⟨_, rfl⟩, x, rfl, rfl, trivial, _, rfl, ?_⟩
        rw [e1]
        refine iteT ⟨_, rfl, ⟨_, rfl⟩, x, rfl, rfl, trivial, _, rfl, ?_⟩
        have e2 : nameB (.str x) = (Txt.isalpha x && Txt.islower x) := by
          rw [low_is asc]
          show (decide (1 ≤ x.length) && decide (x.length ≤ 8) && lowB x) = _
          rw [decide_eq_true big, Bool.and_true]
        rw [e2] at q0
        cases z : Txt.isalpha x
        · rw [z] at q0
          exact iteF q0
        · rw [z] at q0
          exact iteT ⟨_, rfl, ⟨_, rfl⟩, x, rfl, rfl, trivial, q0⟩
      · rw [decide_eq_true (show (8 : Int) < (x.length : Nat) by omega)]
        have e2 : nameB (.str x) = false := by
          show (decide (1 ≤ x.length) && decide (x.length ≤ 8) && lowB x) = _
          rw [decide_eq_false big, Bool.and_false, Bool.false_and]
        rw [e2] at q0
        exact iteT q0
    | non => exact iteT q0
    | bl b => exact iteT q0
    | int n => exact iteT q0
    | lst a b => exact iteT q0
    | tup a b => exact iteT q0
theorem ok_label {f : Addr} {fd : FuncData} (F : Fun K "_law_is_label" "_law_is_label" (topS 28) f fd) (ml : mg "len" = none) (mi : mg "isinstance" = none) (ms : mg "str" = none) : FnOk P w K mg base CX0 1 f fd ["_law_item"] (spG K nameB) := by
  refine F.ok scLbl (fun vs H Q E h => ?_) (fun cdv A outer s H vs Q E hr h => ?_)
  · obtain ⟨v, d, rfl, _⟩ := h
    rfl
  · obtain ⟨v, d, rfl, hd, ni, q⟩ := h
    refine ⟨_, pss_cons (ps_if (PW.pt (pw_or (pt_not (pt_val (pe_callB call_isi (by rfl) mi boot_isinstance (pa_cons (pv 0) (pa_cons (pe_bltn (v := .ty "str") (by rfl) ms (by decide +kernel) rfl) pa_nil))))) (pw_or1 (pt_not (pt_chain op_le op_le pe_int (pe_callB call_len_str (by rfl) ml PySem.boot_len (pa_cons (pv 0) pa_nil)) pe_int))))) (pss_one (ps_ret pe_bl)) pss_nil)
      (pss_one (ps_ret (pe_cmpR (op_eqD hr.units) (pe_lc (own := [("_law_sign", 1)]) (g := gName 1) (by rfl) scLbl.nd (pi_str (pv 0)) (blkOk_by (own := [("_law_sign", 1)]) (N := nLbl) (sc := defScope (topS 28)) (by decide +kernel))
        (fun _ _ _ _ _ => pg_name (i := 1) scLbl.nd rfl (Or.inl rfl)) (fun _ _ _ _ _ => pts_one (pt_cmpR op_notIn_sign (pv 1) pe_str (by rfl))) (fun _ _ _ _ _ => pv 1)) (pe_lst pa_nil) (nomark _)))), ?_⟩
    have q0 := q H (Same.refl H)
    refine ⟨v, rfl, v, .ty "str", _, _, _, rfl, .ty "str", ty_of hd, kit_str, _, rfl, ?_⟩
    cases hd with
    | str x =>
      have asc : (x.cps.toList.all fun c => decide (c < 128)) = true := ni.g
      have hl := ni.slen
      have run : ∀ b : Bool, b = (decide (1 ≤ x.length) && decide (x.length ≤ 8)) → (b = false → Q (.bl false) H) := fun b e z => by
        have : nameB (.str x) = false := by
          show (decide (1 ≤ x.length) && decide (x.length ≤ 8) && lowB x) = false
          rw [← e, z, Bool.false_and]
        rw [this] at q0
        exact q0
      refine iteF ⟨_, rfl, x, rfl, Nat.le_trans hl (by decide), 1, x.length, rfl, rfl, _, rfl, ?_⟩
      by_cases one : 1 ≤ x.length
      · rw [decide_eq_true (show (1 : Int) ≤ (x.length : Nat) by omega)]
        refine iteT ⟨x.length, 8, rfl, rfl, _, rfl, ?_⟩
        by_cases big : x.length ≤ 8
        · rw [decide_eq_true (show ((x.length : Nat) : Int) ≤ 8 by omega)]
          refine iteF ?_
          refine ⟨_, rfl, x, rfl, fun D nD => ?_⟩
          refine lc_it walk_str (fun i G => Same H G ∧ G D = some (.lst (((x.cps.toList.take i).filter badC).map sg))) ⟨same_new nD, upd_same⟩ (fun _ _ _ _ => trivial) ?_ ?_
          · rintro i u G G' hi ⟨sm, eD⟩ ⟨rfl, c, hc, rfl⟩
            have hc' : x.cps.toList[i]? = some c := by rw [Array.getElem?_toList]; exact hc
            have lc : c < 128 := of_decide_eq_true (List.all_eq_true.mp asc c (List.mem_of_getElem? hc'))
            have lz : x.length = x.cps.toList.length := by
              show x.cps.size = _
              rw [← Array.length_toList]
            have et : (x.cps.toList.take (i + 1)).filter badC = (x.cps.toList.take i).filter badC ++ (if badC c = true then [c] else []) := by
              rw [List.take_add_one, hc', List.filter_append]
              show _ ++ [c].filter badC = _
              rw [List.filter_cons]
              cases badC c <;> rfl
            refine ⟨rfl, ?_⟩
            refine ⟨_, rfl, c, _, rfl, rfl, _, rfl, ?_⟩
            rw [az_in c lc]
            cases z : (!decide (97 ≤ c ∧ c ≤ 122))
            · refine iteF ⟨sm, ?_⟩
              rw [et, show badC c = false from z]
              simpa using eD
            · refine iteT ⟨_, rfl, _, eD, ?_, putS sm nD, ?_⟩
              · have h2 := List.length_filter_le badC (x.cps.toList.take i)
                rw [List.length_take] at h2
                rw [List.length_map]
                exact small' (by omega)
              · rw [upd_same, et, show badC c = true from z, List.map_append]
                rfl
          · rintro G ⟨sm, eD⟩
            have full : x.cps.toList.take x.cps.size = x.cps.toList := List.take_of_length_le (by rw [Array.length_toList]; exact Nat.le_refl _)
            rw [full] at eD
            refine ⟨Nat.zero_le _, fun l2 n2 => ?_⟩
            have s2 := same_new (o := .lst []) n2
            obtain ⟨g1, g2⟩ := good_sgs (x.cps.toList.filter badC) fun c hc => of_decide_eq_true (List.all_eq_true.mp asc c (List.mem_filter.mp hc).1)
            refine ⟨.list ((x.cps.toList.filter badC).map signDt), .list [], .lst (.inl (.inl (s2 _ _ eD))) (dp_sgs _), .lst (.inl (.inl upd_same)) .nil, good_shaped g1 (by show PyData.depthAll _ + 1 ≤ 64; omega), rfl, ?_⟩
            have e : nameB (.str x) = PyData.eqv (.list ((x.cps.toList.filter badC).map signDt)) (.list []) := by
              rw [eqv_nil2]
              show (decide (1 ≤ x.length) && decide (x.length ≤ 8) && lowB x) = _
              rw [decide_eq_true one, decide_eq_true big, Bool.true_and, Bool.true_and]
              have e3 := filter_none (fun c => decide (97 ≤ c ∧ c ≤ 122)) x.cps.toList
              unfold lowB
              rw [← e3]
              show (x.cps.toList.filter badC).isEmpty = _
              rw [List.isEmpty_map]
            rw [e] at q
            exact q _ (sm.trans s2)
        · rw [decide_eq_false (show ¬ ((x.length : Nat) : Int) ≤ 8 by omega)]
          exact iteT (run false (by rw [decide_eq_false big, Bool.and_false]) rfl)
      · rw [decide_eq_false (show ¬ (1 : Int) ≤ (x.length : Nat) by omega)]
        refine iteF ⟨_, rfl, iteT (run false (by rw [decide_eq_false one, Bool.false_and]) rfl)⟩
    | non => exact iteT q0
    | bl b => exact iteT q0
    | int n => exact iteT q0
    | lst a b => exact iteT q0
    | tup a b => exact iteT q0
end
end Kn


namespace Kn
open PySem PySem.Spec PyProof.Rows L2
abbrev nStr : List Str := ["_law_feed", "_law_some"]
theorem scStr : FnScope nStr ["_law_feed"] (defScope (topS 27)) := ⟨rfl, rfl, rfl, by decide +kernel, rfl, by decide +kernel, by decide +kernel⟩
def sgA : List PyData := [.none, .bool true, .bool false, .int 0, .int 1, .int 2, .int (-1), .int (10 ^ (59 : Int).toNat), .str "", .str "a", .str "b", .str "zz", .str "abcdefgh", .str "abcdefghi", .str "A", .str "a b", .str "-"]
def sgB : List PyData := [.str "a,b", .str "on", .str "came", .tuple [], .list [], .tuple [.str "a"], .tuple [.str "a", .str "b"], .tuple [.str "b", .str "a"], .tuple [.str "a", .str "a"], .list [.str "a"], .tuple [.str "a", .int 0]]
def sgC : List PyData := [.tuple [.str "a", .bool true], .tuple [.str "a", .int (-1)], .tuple [.str "a", .int 1, .bool false, .tuple []], .tuple [.str "a", .int 1, .bool false, .tuple [.str "a"]], .tuple [.str "a", .int 0, .bool false, .tuple []]]
def sgD : List PyData := [.tuple [.str "a", .int 1, .int 0, .tuple []], .tuple [.tuple [.str "a", .int 0], .tuple [.str "b", .int 1]], .tuple [.str "note", .str "a"], .tuple [.str "guard", .str "on"], .tuple [.tuple [.str "a", .int 1, .bool false, .tuple []]]]
def strangeD : List PyData := sgA ++ sgB ++ sgC ++ sgD
theorem strange_ok : ∀ d ∈ strangeD, goodD d = true ∧ nodesD d ≤ 10 ∧ d.depth ≤ 3 := by
  have all : (strangeD.all fun d => goodD d && decide (nodesD d ≤ 10) && decide (d.depth ≤ 3)) = true := by decide +kernel
  intro d hd
  obtain ⟨h1, h2⟩ := Bool.and_eq_true_iff.mp (List.all_eq_true.mp all d hd)
  obtain ⟨h3, h4⟩ := Bool.and_eq_true_iff.mp h1
  exact ⟨h3, of_decide_eq_true h4, of_decide_eq_true h2⟩
theorem dp_in {K : PySem.W.Frag} {H : Hp} : ∀ {xs : List V} {ds : List PyData}, DpAll K H xs ds → ∀ x ∈ xs, ∃ d ∈ ds, Dp K H x d
  | _, _, .nil, x, hx => by cases hx
  | _, _, .cons a b, x, hx => by
    rcases List.mem_cons.mp hx with rfl | hx
    · exact ⟨_, List.mem_cons_self .., a⟩
    · obtain ⟨d, hd, q⟩ := dp_in b x hx
      exact ⟨d, List.mem_cons_of_mem _ hd, q⟩
mutual
theorem dG {K : PySem.W.Frag} {H H' : Hp} (hl : ∀ a xs, SqL K H a xs → SqL K H' a xs) (ht : ∀ a xs, SqT K H a xs → SqT K H' a xs) : ∀ {v : V} {d : PyData}, Dp K H v d → Dp K H' v d
  | _, _, .non => .non
  | _, _, .bl b => .bl b
  | _, _, .int i => .int i
  | _, _, .str x => .str x
  | _, _, .lst h k => .lst (hl _ _ h) (dGs hl ht k)
  | _, _, .tup h k => .tup (ht _ _ h) (dGs hl ht k)
theorem dGs {K : PySem.W.Frag} {H H' : Hp} (hl : ∀ a xs, SqL K H a xs → SqL K H' a xs) (ht : ∀ a xs, SqT K H a xs → SqT K H' a xs) : ∀ {vs : List V} {ds : List PyData}, DpAll K H vs ds → DpAll K H' vs ds
  | _, _, .nil => .nil
  | _, _, .cons a b => .cons (dG hl ht a) (dGs hl ht b)
end
theorem dFd {K : PySem.W.Frag} {f a : Addr} {ns : List Int} {H H' : Hp} {c : Nat} (d : Fd f a ns H c) (k : Keep f H H') {v : V} {x : PyData} (h : Dp K H v x) : Dp K H' v x := dG (fun _ _ q => seqK d k q) (fun _ _ q => tupT (ts_fd d k) q) h
theorem dsFd {K : PySem.W.Frag} {f a : Addr} {ns : List Int} {H H' : Hp} {c : Nat} (d : Fd f a ns H c) (k : Keep f H H') {vs : List V} {ds : List PyData} (h : DpAll K H vs ds) : DpAll K H' vs ds := dGs (fun _ _ q => seqK d k q) (fun _ _ q => tupT (ts_fd d k) q) h
def spStrange (K : PySem.W.Frag) : Sp := fun vs H Q _ => ∃ (f a : Addr) (ns : List Int) (c : Nat), vs = [.ref f] ∧ Fd f a ns H c ∧ c < 90000 ∧
  ∀ (v : V) (d : PyData) (H' : Hp), d ∈ strangeD → Dp K H' v d → Keep f H H' → Fd f a ns H' (c + 1) → Q v H'
section
variable {P : Program} {w : World} {K : PySem.W.Frag} {mg : Str → Option Value} {base : Heap}
theorem ok_strange {g gA : Addr} {fd fdA : FuncData} (F : Fun K "_law_strange" "_law_strange" (topS 27) g fd) (FA : Fun K "_law_any" "_law_any" (topS 24) gA fdA) (bA : Binds K fdA ["_law_feed", "_law_some"] []) (mA : mg "_law_any" = some (.ref gA))
    (GA : FnOk P w K mg base CX0 2 gA fdA ["_law_feed", "_law_some"] (spAny K)) : FnOk P w K mg base CX0 3 g fd ["_law_feed"] (spStrange K) := by
  refine F.ok scStr (fun vs H Q E h => ?_) (fun cdv A outer s H vs Q E hr h => ?_)
  · obtain ⟨f, a, ns, c, rfl, _⟩ := h
    rfl
  · obtain ⟨f, a, ns, c, rfl, fd0, hc, q⟩ := h
    refine ⟨_, pss_cons (ps_set (i := 1) scStr.nd rfl (.inl rfl) (pe_lst (pa_cons pe_non (pa_cons pe_bl (pa_cons pe_bl (pa_cons pe_int (pa_cons pe_int (pa_cons pe_int (pa_cons (pe_un un_neg pe_int) (pa_cons (pe_op op_pow pe_int pe_int) (pa_cons pe_str (pa_cons pe_str (pa_cons pe_str (pa_cons pe_str (pa_cons pe_str (pa_cons pe_str (pa_cons pe_str (pa_cons pe_str (pa_cons pe_str pa_nil)))))))))))))))))))
      (pss_cons (ps_set (i := 1) scStr.nd rfl (.inl rfl) (pe_op op_cat (pv 1) (pe_lst (pa_cons pe_str (pa_cons pe_str (pa_cons pe_str (pa_cons (pe_tup pa_nil) (pa_cons (pe_lst pa_nil) (pa_cons (pe_tup (pa_cons pe_str pa_nil)) (pa_cons (pe_tup (pa_cons pe_str (pa_cons pe_str pa_nil))) (pa_cons (pe_tup (pa_cons pe_str (pa_cons pe_str pa_nil))) (pa_cons (pe_tup (pa_cons pe_str (pa_cons pe_str pa_nil))) (pa_cons (pe_lst (pa_cons pe_str pa_nil)) (pa_cons (pe_tup (pa_cons pe_str (pa_cons pe_int pa_nil))) pa_nil))))))))))))))
      (pss_cons (ps_set (i := 1) scStr.nd rfl (.inl rfl) (pe_op op_cat (pv 1) (pe_lst (pa_cons (pe_tup (pa_cons pe_str (pa_cons pe_bl pa_nil))) (pa_cons (pe_tup (pa_cons pe_str (pa_cons (pe_un un_neg pe_int) pa_nil))) (pa_cons (pe_tup (pa_cons pe_str (pa_cons pe_int (pa_cons pe_bl (pa_cons (pe_tup pa_nil) pa_nil))))) (pa_cons (pe_tup (pa_cons pe_str (pa_cons pe_int (pa_cons pe_bl (pa_cons (pe_tup (pa_cons pe_str pa_nil)) pa_nil))))) (pa_cons (pe_tup (pa_cons pe_str (pa_cons pe_int (pa_cons pe_bl (pa_cons (pe_tup pa_nil) pa_nil))))) pa_nil))))))))
      (pss_cons (ps_set (i := 1) scStr.nd rfl (.inl rfl) (pe_op op_cat (pv 1) (pe_lst (pa_cons (pe_tup (pa_cons pe_str (pa_cons pe_int (pa_cons pe_int (pa_cons (pe_tup pa_nil) pa_nil))))) (pa_cons (pe_tup (pa_cons (pe_tup (pa_cons pe_str (pa_cons pe_int pa_nil))) (pa_cons (pe_tup (pa_cons pe_str (pa_cons pe_int pa_nil))) pa_nil))) (pa_cons (pe_tup (pa_cons pe_str (pa_cons pe_str pa_nil))) (pa_cons (pe_tup (pa_cons pe_str (pa_cons pe_str pa_nil))) (pa_cons (pe_tup (pa_cons (pe_tup (pa_cons pe_str (pa_cons pe_int (pa_cons pe_bl (pa_cons (pe_tup pa_nil) pa_nil))))) pa_nil)) pa_nil))))))))
      (pss_one (ps_ret (pe_call GA hr (by rfl) mA FA.kp bA .nil pass0 (pa_cons (pv 0) (pa_cons (pv 1) pa_nil)))))))), ?_⟩
    refine seq_asg ((dl_lst (K := K) (da_cons de_non (da_cons de_bl (da_cons de_bl (da_cons de_int (da_cons de_int (da_cons de_int (da_cons de_neg (da_cons de_big (da_cons de_str (da_cons de_str (da_cons de_str (da_cons de_str (da_cons de_str (da_cons de_str (da_cons de_str (da_cons de_str (da_cons de_str da_nil))))))))))))))))) (show 17 ≤ 1000 by decide)) _ _ _ fun l0 vs0 H0 s0 n0 e0 d0 => ?_)
    dsimp only [gName]
    refine seq_asg (dl_grow e0 d0 (fun R r => ⟨_, rfl, r⟩) (dl_lst (K := K) (da_cons de_str (da_cons de_str (da_cons de_str (da_cons (de_tup da_nil (show 0 ≤ 1000 by decide)) (da_cons (de_lst da_nil (show 0 ≤ 1000 by decide)) (da_cons (de_tup (da_cons de_str da_nil) (show 1 ≤ 1000 by decide)) (da_cons (de_tup (da_cons de_str (da_cons de_str da_nil)) (show 2 ≤ 1000 by decide)) (da_cons (de_tup (da_cons de_str (da_cons de_str da_nil)) (show 2 ≤ 1000 by decide)) (da_cons (de_tup (da_cons de_str (da_cons de_str da_nil)) (show 2 ≤ 1000 by decide)) (da_cons (de_lst (da_cons de_str da_nil) (show 1 ≤ 1000 by decide)) (da_cons (de_tup (da_cons de_str (da_cons de_int da_nil)) (show 2 ≤ 1000 by decide)) da_nil))))))))))) (show 11 ≤ 1000 by decide)) (show 28 ≤ 1000 by decide) fun l1 vs1 H1 s1 n1 e1 d1 => ?_)
    dsimp only [gName]
    refine seq_asg (dl_grow e1 d1 (fun R r => ⟨_, rfl, r⟩) (dl_lst (K := K) (da_cons (de_tup (da_cons de_str (da_cons de_bl da_nil)) (show 2 ≤ 1000 by decide)) (da_cons (de_tup (da_cons de_str (da_cons de_neg da_nil)) (show 2 ≤ 1000 by decide)) (da_cons (de_tup (da_cons de_str (da_cons de_int (da_cons de_bl (da_cons (de_tup da_nil (show 0 ≤ 1000 by decide)) da_nil)))) (show 4 ≤ 1000 by decide)) (da_cons (de_tup (da_cons de_str (da_cons de_int (da_cons de_bl (da_cons (de_tup (da_cons de_str da_nil) (show 1 ≤ 1000 by decide)) da_nil)))) (show 4 ≤ 1000 by decide)) (da_cons (de_tup (da_cons de_str (da_cons de_int (da_cons de_bl (da_cons (de_tup da_nil (show 0 ≤ 1000 by decide)) da_nil)))) (show 4 ≤ 1000 by decide)) da_nil))))) (show 5 ≤ 1000 by decide)) (show 33 ≤ 1000 by decide) fun l2 vs2 H2 s2 n2 e2 d2 => ?_)
    dsimp only [gName]
    refine seq_asg (dl_grow e2 d2 (fun R r => ⟨_, rfl, r⟩) (dl_lst (K := K) (da_cons (de_tup (da_cons de_str (da_cons de_int (da_cons de_int (da_cons (de_tup da_nil (show 0 ≤ 1000 by decide)) da_nil)))) (show 4 ≤ 1000 by decide)) (da_cons (de_tup (da_cons (de_tup (da_cons de_str (da_cons de_int da_nil)) (show 2 ≤ 1000 by decide)) (da_cons (de_tup (da_cons de_str (da_cons de_int da_nil)) (show 2 ≤ 1000 by decide)) da_nil)) (show 2 ≤ 1000 by decide)) (da_cons (de_tup (da_cons de_str (da_cons de_str da_nil)) (show 2 ≤ 1000 by decide)) (da_cons (de_tup (da_cons de_str (da_cons de_str da_nil)) (show 2 ≤ 1000 by decide)) (da_cons (de_tup (da_cons (de_tup (da_cons de_str (da_cons de_int (da_cons de_bl (da_cons (de_tup da_nil (show 0 ≤ 1000 by decide)) da_nil)))) (show 4 ≤ 1000 by decide)) da_nil) (show 1 ≤ 1000 by decide)) da_nil))))) (show 5 ≤ 1000 by decide)) (show 38 ≤ 1000 by decide) fun l3 vs3 H3 s3 n3 e3 d3 => ?_)
    dsimp only [gName]
    have sA := (((s0.trans s1).trans s2).trans s3)
    have fdA := fd0.same sA
    have len : vs3.length = 38 := dsLen d3
    refine ⟨.ref f, rfl, .ref l3, rfl, f, a, l3, ns, c, vs3, rfl, fdA, by omega, .inl (.inl e3), by omega, by omega, fun x G hx k fdG => ?_⟩
    obtain ⟨d, hd, dp⟩ := dp_in d3 x hx
    refine q x d G ?_ (dFd fdA k dp) ((keep_same sA).trans k) fdG
    exact hd
end
end Kn


/-! Kn: any data asked for among the texts of a tuple. -/
namespace Kn
open PySem PySem.Spec PyProof.Rows L2
def hasT (ts : List Str) (d : PyData) : Bool := ts.any fun t => PyData.eqv (.str t) d
def rInT (K : PySem.W.Frag) : R2 := fun x y H Q => ∃ (a : Addr) (d : PyData) (ts : List Str), y = .ref a ∧ SqT K H a (ts.map V.str) ∧ Dp K H x d ∧ SeqAt.shaped d = true ∧ (∀ t ∈ ts, SeqAt.shaped (.str t) = true) ∧ Q (.bl (hasT ts d)) H
def rOutT (K : PySem.W.Frag) : R2 := fun x y H Q => ∃ (a : Addr) (d : PyData) (ts : List Str), y = .ref a ∧ SqT K H a (ts.map V.str) ∧ Dp K H x d ∧ SeqAt.shaped d = true ∧ (∀ t ∈ ts, SeqAt.shaped (.str t) = true) ∧ Q (.bl (!hasT ts d)) H
theorem lay_texts : ∀ ts : List Str, (∀ t ∈ ts, SeqAt.shaped (.str t) = true) → PyData.canLayAll0 (ts.map PyData.str) = true ∧ PyData.depthAll (ts.map PyData.str) = 0
  | [], _ => ⟨rfl, rfl⟩
  | t :: r, h => by
    obtain ⟨a, b⟩ := lay_texts r fun x m => h x (List.mem_cons_of_mem _ m)
    have q := SeqAt.canLay_of_shaped (h t (List.mem_cons_self ..))
    refine ⟨?_, ?_⟩
    · show (PyData.canLay0 (.str t) && PyData.canLayAll0 (r.map PyData.str)) = true
      rw [q, a]
      rfl
    · show max (PyData.depth (.str t)) (PyData.depthAll (r.map PyData.str)) = 0
      rw [b]
      rfl
theorem dp_texts {K : PySem.W.Frag} {H : Hp} : ∀ ts : List Str, DpAll K H (ts.map V.str) (ts.map PyData.str)
  | [] => .nil
  | t :: r => .cons (.str t) (dp_texts r)
section
variable {X : Cx}
theorem any_texts (ts : List Str) (d : PyData) : ((ts.map PyData.str).any fun y => PyData.eqv y d) = hasT ts d := by
  rw [List.any_map]
  rfl
theorem op_inT (hu : X.A.units + 64 < cLine) : OpR X (compareOp .In) (rInT X.K) := by
  intro pins s σ H x y v u Q I rx ry h
  obtain ⟨a, d, ts, rfl, ht, hd, sd, st, q⟩ := h
  obtain ⟨lay, dep⟩ := lay_texts ts st
  obtain ⟨as, r1⟩ := Dp.reads I d x v hd rx
  obtain ⟨bs, r2⟩ := Dp.reads I (.tuple (ts.map PyData.str)) (.ref a) u (.tup ht (dp_texts ts)) ry
  cases r2 with
  | tuple h1 h2 h3 h4 =>
    refine SeqAt.in_tupleAt _ ⟨_, h1, h2, _, h3⟩ (SeqAt.items_eqAt h4 r1 lay (SeqAt.canLay_of_shaped sd) (by rw [dep, Nat.zero_min]; omega)) ?_
    rw [SeqAt.any_by_data h4 lay, any_texts]
    exact ⟨.bl _, H, I, rfl, q⟩
theorem op_notInT (hu : X.A.units + 64 < cLine) : OpR X (compareOp .NotIn) (rOutT X.K) := by
  intro pins s σ H x y v u Q I rx ry h
  obtain ⟨a, d, ts, rfl, ht, hd, sd, st, q⟩ := h
  obtain ⟨lay, dep⟩ := lay_texts ts st
  obtain ⟨as, r1⟩ := Dp.reads I d x v hd rx
  obtain ⟨bs, r2⟩ := Dp.reads I (.tuple (ts.map PyData.str)) (.ref a) u (.tup ht (dp_texts ts)) ry
  cases r2 with
  | tuple h1 h2 h3 h4 =>
    refine SeqAt.notIn_tupleAt _ ⟨_, h1, h2, _, h3⟩ (SeqAt.items_eqAt h4 r1 lay (SeqAt.canLay_of_shaped sd) (by rw [dep, Nat.zero_min]; omega)) ?_
    rw [SeqAt.any_by_data h4 lay, any_texts]
    exact ⟨.bl _, H, I, rfl, q⟩
end
theorem hasT_str (ts : List Str) (m : Str) : hasT ts (.str m) = decide (m ∈ ts) := by
  unfold hasT
  induction ts with
  | nil => simp
  | cons t r ih =>
    rw [List.any_cons, ih]
    show ((t == m) || decide (m ∈ r)) = decide (m ∈ t :: r)
    by_cases e : t = m
    · subst e
      simp
    · have e2 : ¬ m = t := fun z => e z.symm
      simp [e, e2]
theorem hasT_true {ts : List Str} {d : PyData} (h : hasT ts d = true) : ∃ m, d = .str m ∧ m ∈ ts := by
  obtain ⟨t, m, e⟩ := List.any_eq_true.mp h
  cases d with
  | str x =>
    have e : (t == x) = true := e
    exact ⟨x, rfl, by rw [← beq_iff_eq.mp e]; exact m⟩
  | none => cases e
  | bool b => cases e
  | int n => cases e
  | list l => cases e
  | tuple l => cases e
  | dict l => cases e
end Kn


namespace Kn
open PySem PySem.Spec PyProof.Rows L2
abbrev nAsc : List Str := ["things"]
theorem scAsc : FnScope nAsc ["things"] (defScope (topS 12)) := ⟨rfl, rfl, rfl, by decide +kernel, rfl, by decide +kernel, by decide +kernel⟩
abbrev nNames : List Str := ["web", "row"]
theorem scNames : FnScope nNames ["web"] (defScope (topS 16)) := ⟨rfl, rfl, rfl, by decide +kernel, rfl, by decide +kernel, by decide +kernel⟩
abbrev nRow : List Str := ["row", "old", "name", "own", "fee", "has", "table", "names", "entry"]
theorem scRow : FnScope nRow ["row", "old", "name"] (defScope (topS 20)) := ⟨rfl, rfl, rfl, by decide +kernel, rfl, by decide +kernel, by decide +kernel⟩
abbrev nRen : List Str := ["web", "kind", "name", "old", "kinds", "asker", "changed", "row"]
theorem scRen : FnScope nRen ["web", "kind", "name"] (defScope (topS 19)) := ⟨rfl, rfl, rfl, by decide +kernel, rfl, by decide +kernel, by decide +kernel⟩

theorem sub_len {α : Type} [DecidableEq α] : ∀ {l L : List α}, l.Nodup → (∀ x ∈ l, x ∈ L) → l.length ≤ L.length
  | [], _, _, _ => Nat.zero_le _
  | x :: r, L, nd, sub => by
    obtain ⟨n1, n2⟩ := List.nodup_cons.mp nd
    have hx := sub x (List.mem_cons_self ..)
    have ih := sub_len n2 (L := L.erase x) fun y hy => (List.mem_erase_of_ne (fun q => by rw [q] at hy; exact n1 hy)).mpr (sub y (List.mem_cons_of_mem _ hy))
    have := List.length_erase_of_mem hx
    have pos : 0 < L.length := List.length_pos_of_mem hx
    rw [List.length_cons]
    omega
theorem Nm.fit {s : Str} (h : Nm s) : Fit 8 s := ⟨h.1, fun c hc => by
  have z := of_decide_eq_true (List.all_eq_true.mp h.2.2 c hc)
  exact Nat.lt_of_le_of_lt z.2 (by decide)⟩
theorem Nm.asc {s : Str} (h : Nm s) : goodD (.str s) = true := List.all_eq_true.mpr fun c hc => by
  have z := of_decide_eq_true (List.all_eq_true.mp h.2.2 c hc)
  exact decide_eq_true (by omega)
theorem Nm.shaped {s : Str} (h : Nm s) : SeqAt.shaped (.str s) = true := good_shaped h.asc (Nat.zero_le _)
theorem Nm.b {s : Str} (h : Nm s) : nameB (.str s) = true := by
  show (decide (1 ≤ s.length) && decide (s.length ≤ 8) && lowB s) = true
  rw [decide_eq_true h.1, decide_eq_true h.2.1]
  exact h.2.2
theorem nm_of {s : Str} (h : nameB (.str s) = true) : Nm s := by
  have h : (decide (1 ≤ s.length) && decide (s.length ≤ 8) && lowB s) = true := h
  obtain ⟨h, h3⟩ := Bool.and_eq_true_iff.mp h
  obtain ⟨h1, h2⟩ := Bool.and_eq_true_iff.mp h
  exact ⟨of_decide_eq_true h2, of_decide_eq_true h1, h3⟩
theorem Gd.rlen {g : Pg} (h : Gd g) {e : Ent} (he : e ∈ g.es) : e.row.length ≤ 5 := by
  obtain ⟨a, b⟩ := h.row e he
  have z := sub_len (asc_nd' a) b
  rw [List.length_map] at z
  exact Nat.le_trans z h.l5
theorem Gd.ok {g : Pg} (h : Gd g) : g.ok := by
  refine ⟨Nat.le_trans h.l5 (by decide), fun e he => ⟨(h.nm _ (List.mem_map.mpr ⟨e, he, rfl⟩)).fit, h.fee e he, Nat.le_trans (h.rlen he) (by decide), fun s hs => (h.nm s ((h.row e he).2 s hs)).fit⟩, (h.nm _ h.asks).fit⟩
theorem Gd.sh {g : Pg} (h : Gd g) : ∀ e ∈ g.es, SeqAt.shaped (.str e.name) = true := fun e he => (h.nm _ (List.mem_map.mpr ⟨e, he, rfl⟩)).shaped
inductive Out where
  | yes (g : Pg)
  | no (w : Str)
def NoUse (D : Addr) (w : Str) (H : Hp) (E : XK) : Prop := ∀ dd, H dd = none → E (.ref D) (some dd) (upd H dd (.xd [("at", .int (-1)), ("word", .str w)]))
def Res (K : PySem.W.Frag) (D : Addr) (H : Hp) (Q : VK) (E : XK) : Out → Prop
  | .yes g => ∀ (v : V) (H' : Hp), Same H H' → PgAt K H' v g → Q v H'
  | .no w => ∀ H1, Same H H1 → NoUse D w H1 E
def byD (g : Pg) (d : PyData) : Option Ent := g.es.find? fun e => PyData.eqv (.str e.name) d
theorem byD_some {g : Pg} {d : PyData} {e : Ent} (h : byD g d = some e) : First g d e := by
  obtain ⟨a, i, hi, b, c⟩ := List.find?_eq_some_iff_getElem.mp h
  refine ⟨i, by rw [List.getElem?_eq_getElem hi, b], a, fun j e' hj he' => ?_⟩
  obtain ⟨hl, rfl⟩ := List.getElem?_eq_some_iff.mp he'
  simpa using c j hj
theorem byD_none {g : Pg} {d : PyData} (h : byD g d = none) : Nobody g d := fun e he => by
  simpa using List.find?_eq_none.mp h e he
theorem eqv_str {a : Str} {d : PyData} (h : PyData.eqv (.str a) d = true) : d = .str a := by
  cases d <;> first | (have h : (a == _) = true := h; rw [beq_iff_eq.mp h]) | cases h
theorem byD_is {g : Pg} {d : PyData} {e : Ent} (h : byD g d = some e) : e ∈ g.es ∧ d = .str e.name := ⟨List.mem_of_find?_eq_some h, eqv_str (List.find?_some (p := fun e : Ent => PyData.eqv (.str e.name) d) h)⟩
def fits (g : Pg) (o m : Str) : Bool := nameB (.str m) && (decide (m = o) || !decide (m ∈ nms g))
def outRen (g : Pg) (dk dl : PyData) : Out := match byD g dk with
  | none => .no "kind"
  | some e => match dl with
    | .str m => if fits g e.name m = true then .yes (ren e.name m g) else .no "name"
    | _ => .no "name"
theorem fits_is {g : Pg} {o m : Str} (h : fits g o m = true) : Nm m ∧ (m = o ∨ m ∉ nms g) := by
  obtain ⟨a, b⟩ := Bool.and_eq_true_iff.mp h
  refine ⟨nm_of a, ?_⟩
  rcases Bool.or_eq_true_iff.mp b with z | z
  · exact .inl (of_decide_eq_true z)
  · exact .inr fun y => by rw [decide_eq_true y] at z; cases z
theorem fits_of {g : Pg} {o m : Str} (h : Nm m) (k : m = o ∨ m ∉ nms g) : fits g o m = true := by
  unfold fits
  rw [h.b, Bool.true_and]
  rcases k with k | k
  · rw [decide_eq_true k, Bool.true_or]
  · rw [decide_eq_false k, Bool.not_false, Bool.or_true]
def spAsc (K : PySem.W.Frag) : Sp := fun vs H Q _ => ∃ (l : Addr) (xs : List Str), vs = [.ref l] ∧ SqL K H l (xs.map V.str) ∧ xs.Nodup ∧ xs.length < 64 ∧ ∀ (p : Addr) (H' : Hp), Same H H' → H' p = some (.tup ((sortS xs).map V.str)) → Q (.ref p) H'
def spAscE (K : PySem.W.Frag) : Sp := fun vs H Q _ => ∃ (l : Addr) (ws : List V) (es : List Ent), vs = [.ref l] ∧ SqL K H l ws ∧ EntsAt K H ws es ∧ (es.map (·.name)).Nodup ∧ es.length ≤ 12 ∧ ∀ (p : Addr) (us : List V) (H' : Hp), Same H H' → SqT K H' p us → EntsAt K H' us (sortE es) → Q (.ref p) H'
def spNames (K : PySem.W.Frag) : Sp := fun vs H Q _ => ∃ (v : V) (g : Pg), vs = [v] ∧ PgAt K H v g ∧ g.ok ∧ ∀ (p : Addr) (H' : Hp), Same H H' → H p = none → H' p = some (.tup (g.es.map fun e => V.str e.name)) → Q (.ref p) H'
def spRow (K : PySem.W.Frag) : Sp := fun vs H Q _ => ∃ (r : V) (e : Ent) (o m : Str), vs = [r, .str o, .str m] ∧ EntAt K H r e ∧ e.row.length ≤ 8 ∧ (e.row.map (late o m)).Nodup ∧ ∀ (r' : V) (H' : Hp), Same H H' → EntAt K H' r' (mapE (late o m) e) → Q r' H'
def spRen (K : PySem.W.Frag) (D : Addr) : Sp := fun vs H Q E => ∃ (v k x : V) (g : Pg) (dk dx : PyData), vs = [v, k, x] ∧ PgAt K H v g ∧ Gd g ∧ Dp K H k dk ∧ SeqAt.shaped dk = true ∧ Dp K H x dx ∧ Nice dx ∧ Res K D H Q E (outRen g dk dx)
section
variable {P : Program} {w : World} {K : PySem.W.Frag} {mg : Str → Option Value} {base : Heap}
theorem raise_read {D : Addr} {H : Hp} {x : Str} {W : Value → Option Addr → Hp → Prop} {E : XK} (q : ∀ dd, H dd = none → W (.ref D) (some dd) (upd H dd (.xd [("at", .int (-1)), ("word", .str x)]))) :
    ∀ a, H a = none → spInit K D [.ref a, .str x, .int (-1)] (upd H a (exo a D none)) (fun v H2 => v = .non ∧ ∃ (d : Addr) (fs : List (Str × V)), H2 a = some (exo a D (some d)) ∧ H2 d = some (exd d fs) ∧ H d = none ∧ W (.ref D) (some d) (upd (del H2 a) d (.xd fs))) E := by
  intro a ha
  refine ⟨a, .str x, .int (-1), rfl, upd_same, fun dx nd ne => ⟨rfl, dx, _, ?_, upd_same, ?_, ?_⟩⟩
  · rw [upd_ne ne.symm, upd_same]
  · rw [upd_ne ne] at nd
    exact nd
  · rw [upd_ne ne] at nd
    rw [made_raise ha ne]
    exact q dx nd
theorem gathered_nd {xs : List Str} (nd : xs.Nodup) : (gathered xs).Perm xs := (List.perm_ext_iff_of_nodup (nodup_gathered xs) nd).mpr fun _ => mem_gathered
theorem ok_asc {f : Addr} {fd : FuncData} (F : Fun K "ascending" "ascending" (topS 12) f fd) (mt : mg "tuple" = none) (mo : mg "sorted" = none) (me : mg "set" = none) : FnOk P w K mg base CX0 1 f fd ["things"] (spAsc K) := by
  refine F.ok scAsc (fun vs H Q E h => ?_) (fun cdv A outer s H vs Q E hr h => ?_)
  · obtain ⟨l, xs, rfl, _⟩ := h
    rfl
  · obtain ⟨l, xs, rfl, hl, nd, few, q⟩ := h
    refine ⟨_, pss_one (ps_ret (pe_callTy call_tuple_of (by rfl) mt boot_tuple (pa_cons (pe_callB (cr_sortedTx (by rfl)) (by rfl) mo (by decide +kernel) (pa_cons (pe_callTy (cr_setTx (by rfl)) (by rfl) me (by decide +kernel) (pa_cons (pv 0) pa_nil)) pa_nil)) pa_nil))), ?_⟩
    refine ⟨.ref l, rfl, l, xs, rfl, hl, by omega, fun p1 n1 => ?_⟩
    have s1 : Same H (upd H p1 (SetTx w p1 (gathered xs))) := same_new n1
    refine ⟨p1, gathered xs, rfl, upd_same, Nat.lt_of_le_of_lt (len_gathered xs) few, fun ys p2 pm so n2 => ?_⟩
    have s2 := s1.trans (same_new (o := .lst (ys.map V.str)) n2)
    have e := sortS_of (pm.trans (gathered_nd nd)) (sorted_leS so)
    subst e
    refine ⟨p2, _, rfl, .inl ⟨.inl (.inl upd_same), fun p3 n3 => ?_⟩⟩
    exact q p3 _ (s2.trans (same_new n3)) upd_same
theorem EntsAt.same' {H H' : Hp} (s : Same H H') {ps : List EC} (h : ∀ p ∈ ps, EntAt K H (.ref p.1) p.2) : ∀ p ∈ ps, EntAt K H' (.ref p.1) p.2 := fun p hp => (h p hp).same s
theorem cell_dp {H : Hp} {ps : List EC} (h : ∀ p ∈ ps, EntAt K H (.ref p.1) p.2) : ∀ c ∈ ps.map cellE, Dp K H (.ref c.1) c.2 ∧ keyB c.2 = true ∧ c.2.depth ≤ 8 := fun c hc => by
  obtain ⟨p, hp, rfl⟩ := List.mem_map.mp hc
  exact ⟨(h p hp).dp, key_ent _, depth_ent _⟩
theorem ok_ascE {f : Addr} {fd : FuncData} (F : Fun K "ascending" "ascending" (topS 12) f fd) (mt : mg "tuple" = none) (mo : mg "sorted" = none) (me : mg "set" = none) : FnOk P w K mg base CX0 1 f fd ["things"] (spAscE K) := by
  refine F.ok scAsc (fun vs H Q E h => ?_) (fun cdv A outer s H vs Q E hr h => ?_)
  · obtain ⟨l, ws, es, rfl, _⟩ := h
    rfl
  · obtain ⟨l, ws, es, rfl, hl, hE, nd, few, q⟩ := h
    obtain ⟨ps, rfl, rfl, hp⟩ := ent_cells hE
    rw [List.length_map] at few
    rw [List.map_map] at nd
    refine ⟨_, pss_one (ps_ret (pe_callTy call_tuple_of (by rfl) mt boot_tuple (pa_cons (pe_callB (cr_sortedK (by rfl) hr.units) (by rfl) mo (by decide +kernel) (pa_cons (pe_callTy (cr_setK (by rfl) hr.units) (by rfl) me (by decide +kernel) (pa_cons (pv 0) pa_nil)) pa_nil)) pa_nil))), ?_⟩
    refine ⟨.ref l, rfl, l, ps.map cellE, rfl, by rw [List.map_map]; exact hl, cell_dp hp, by rw [List.length_map]; omega, fun a qs na sub all nq => ?_⟩
    have pm := set_cells nd sub all nq
    obtain ⟨rs, p1, rfl⟩ := lift_perm _ _ pm
    have s1 : Same H (upd H a (SetK w a ((rs.map cellE).map memOf))) := same_new na
    have hr1 : ∀ p ∈ rs, EntAt K (upd H a (SetK w a ((rs.map cellE).map memOf))) (.ref p.1) p.2 := fun p hpm => (hp p (p1.mem_iff.mp hpm)).same s1
    refine ⟨a, rs.map cellE, rfl, upd_same, cell_dp hr1, alike_cells rs, sortable_cells rs, fun l2 qs2 n2 pm2 pw2 => ?_⟩
    obtain ⟨ts, rfl, p2, so⟩ := cells_sorted (ps := rs) (((p1.map (·.2.name)).nodup_iff).mpr nd) pm2 pw2
    have s2 := s1.trans (same_new (o := .lst ((ts.map cellE).map fun q => V.ref q.1)) n2)
    refine ⟨l2, _, rfl, .inl ⟨.inl (.inl upd_same), fun p3 n3 => ?_⟩⟩
    have s3 := s2.trans (same_new (o := .tup ((ts.map cellE).map fun q => V.ref q.1)) n3)
    have e : sortE (ps.map (·.2)) = ts.map (·.2) := by
      rw [so]
      exact sortE_of ((sortE_perm _).trans (p1.map (·.2)).symm) (by rw [List.map_map]; exact ((p1.map (·.2.name)).nodup_iff).mpr nd) (sortE_le _)
    have fin : ∀ G, Same H G → EntsAt K G ((ts.map cellE).map fun q => V.ref q.1) (sortE (ps.map (·.2))) := fun G sG => by
      rw [e, List.map_map]
      exact cells_ent fun p hpm => (hp p (p1.mem_iff.mp (p2.mem_iff.mp hpm))).same sG
    exact q p3 _ _ s3 (.inl (.inl upd_same)) (fin _ s3)
theorem ok_names {f : Addr} {fd : FuncData} (F : Fun K "names_of" "names_of" (topS 16) f fd) (mt : mg "tuple" = none) : FnOk P w K mg base CX0 1 f fd ["web"] (spNames K) := by
  refine F.ok scNames (fun vs H Q E h => ?_) (fun cdv A outer s H vs Q E hr h => ?_)
  · obtain ⟨v, g, rfl, _⟩ := h
    rfl
  · obtain ⟨v, g, rfl, ⟨p, r, ws, rfl, hp, hr', hE⟩, ok, q⟩ := h
    have lw := hE.len
    have l12 := ok.1
    refine ⟨_, pss_one (ps_ret (pe_callTy call_tuple_of (by rfl) mt boot_tuple (pa_cons (pe_lc (own := [("row", 1)]) (g := gName 1) (by rfl) scNames.nd (pi_tup (pe_ix ix_tup (pv 0) pe_int (fun _ _ => rfl))) (blkOk_by (own := [("row", 1)]) (N := nNames) (sc := defScope (topS 16)) (by decide +kernel))
      (fun _ _ _ _ _ => pg_name (i := 1) scNames.nd rfl (Or.inl rfl)) (fun _ _ _ _ _ => pts_nil) (fun _ _ _ _ _ => pe_ix (r := rIxT K) ix_tup (pv 1) pe_int (fun _ _ => rfl))) pa_nil))), ?_⟩
    unfold tRet tCB tCons
    refine lc_mapT (a := r) (xs := ws) (g.es.map fun e => V.str e.name) (by simp; omega) (by omega) hr' (fun R k => ⟨.ref p, rfl, p, _, 0, .ref r, rfl, rfl, hp, atI_nat (j := 0) rfl, k⟩) (fun v => rfl) ?_ ?_
    · intro i x y G R hx hy sm k
      obtain ⟨e, he, hv⟩ := hE.get hx
      obtain ⟨e', he', rfl⟩ := map_get hy
      obtain rfl : e = e' := Option.some.inj (he.symm.trans he')
      obtain ⟨p1, r1, rfl, hp1, hr1⟩ := hv.same sm
      exact ⟨.ref p1, rfl, p1, _, 0, _, rfl, rfl, hp1, atI_nat (j := 0) rfl, k G (Same.refl G)⟩
    · intro D G nD sm hD
      exact ⟨D, _, rfl, .inl ⟨.inl (.inl hD), fun t nt => q t _ (putS sm (sm.free nt)) (sm.free nt) upd_same⟩⟩
theorem ok_row {f fA : Addr} {fd dA : FuncData} (F : Fun K "renamed_row" "renamed_row" (topS 20) f fd) (A : Def K mg "ascending" 12 ["things"] fA dA) (OA : FnOk P w K mg base CX0 1 fA dA ["things"] (spAsc K)) : FnOk P w K mg base CX0 2 f fd ["row", "old", "name"] (spRow K) := by
  refine F.ok scRow (fun vs H Q E h => ?_) (fun cdv A' outer s H vs Q E hr h => ?_)
  · obtain ⟨r, e, o, m, rfl, _⟩ := h
    rfl
  · obtain ⟨r, e, o, m, rfl, hv, few, nd, q⟩ := h
    obtain ⟨p1, r1, rfl, hp1, hr1⟩ := id hv
    refine ⟨_, (pss_cons (ps_asg (pv 0) (pg_tup (by rfl) (pgs_cons (pg_name (i := 3) scRow.nd rfl (.inl rfl)) (pgs_cons (pg_name (i := 4) scRow.nd rfl (.inl rfl)) (pgs_cons (pg_name (i := 5) scRow.nd rfl (.inl rfl)) (pgs_cons (pg_name (i := 6) scRow.nd rfl (.inl rfl)) pgs_nil))))))
      (pss_cons (ps_setLc (i := 7) (own := [("entry", 8)]) (g := gName 8) (by rfl) scRow.nd rfl rfl (sw_true rfl rfl rfl (by decide +kernel)) (pi_tup (pv 6)) (blkOk_by (own := [("entry", 8)]) (N := nRow) (sc := defScope (topS 20)) (by decide +kernel)) (fun _ _ _ _ _ => pg_name (i := 8) scRow.nd rfl (Or.inl rfl)) (fun _ _ _ _ _ => pts_nil) (fun _ _ _ _ _ => (pe_ifExp (pt_cmpR op_eq (pv 8) (pv 1) (nomark _)) (pv 2) (pv 8))))
      (pss_one (ps_ret (pe_tup (pa_cons (pe_ifExp (pt_cmpR op_eq (pv 3) (pv 1) (nomark _)) (pv 2) (pv 3)) (pa_cons (pv 4) (pa_cons (pv 5) (pa_cons (pe_call OA hr (by rfl) A.m A.F.kp A.b .nil pass0 (pa_cons (pv 7) pa_nil)) pa_nil))))))))), ?_⟩
    refine ⟨.ref p1, rfl, p1, _, rfl, hp1, rfl, _, _, rfl, _, _, rfl, _, _, rfl, _, _, rfl, rfl, ?_⟩
    dsimp only [gName]
    have pick : ∀ (a : Str) {G : Hp} {R : VK}, R (.str (late o m a)) G → (if decide (V.str a = V.str o) = true then R (.str m) G else R (.str a) G) := by
      intro a G R k
      unfold late at k
      by_cases z : a = o
      · rw [if_pos (decide_eq_true (congrArg V.str z))]
        rw [if_pos z] at k
        exact k
      · rw [if_neg (by rw [decide_eq_false fun y => z (V.str.inj y)]; decide)]
        rw [if_neg z] at k
        exact k
    refine seq_asg (lc_mapT (K := K) (a := r1) (xs := e.row.map V.str) ((e.row.map (late o m)).map V.str) (by simp) (by simp; omega) hr1 (fun R k => ⟨_, rfl, k⟩) (fun v => rfl) ?_ ?_)
    · intro i x y G R hx hy sm k
      obtain ⟨a, ha, rfl⟩ := map_get hx
      obtain ⟨b, hb, rfl⟩ := map_get hy
      obtain ⟨a', ha', rfl⟩ := map_get hb
      obtain rfl : a = a' := Option.some.inj (ha.symm.trans ha')
      refine ⟨_, rfl, _, rfl, rfl, _, rfl, ?_⟩
      have k := k G (Same.refl G)
      unfold late at k
      by_cases z : a = o
      · rw [if_pos z] at k
        rw [decide_eq_true (congrArg V.str z)]
        exact iteT ⟨_, rfl, k⟩
      · rw [if_neg z] at k
        rw [decide_eq_false fun y => z (V.str.inj y)]
        exact iteF ⟨_, rfl, k⟩
    · intro D G nD sm hD
      dsimp only [gName]
      refine ⟨_, rfl, _, rfl, rfl, _, rfl, ?_⟩
      have rest : ∀ (z : Str), z = late o m e.name → ∀ {R : List V → Hp → Prop}, (∀ p H', Same G H' → H' p = some (.tup ((sortS (e.row.map (late o m))).map V.str)) → R [.str z, .int e.fee, .bl e.has, .ref p] H') → True := fun _ _ _ _ => trivial
      by_cases z : e.name = o
      · rw [decide_eq_true (congrArg V.str z)]
        refine iteT ⟨_, rfl, _, rfl, _, rfl, .ref D, rfl, D, e.row.map (late o m), rfl, .inl (.inl hD), nd, by rw [List.length_map]; omega, fun p H' s' hp => ⟨(show 4 ≤ sizeLine by decide), fun u nu => ?_⟩⟩
        have su := same_new (o := .tup [.str m, .int e.fee, .bl e.has, .ref p]) nu
        have en : (mapE (late o m) e).name = m := if_pos z
        refine q (.ref u) _ ((sm.trans s').trans su) ⟨u, p, rfl, ?_, .inl (.inl (su _ _ hp))⟩
        rw [en]
        exact .inl (.inl upd_same)
      · rw [decide_eq_false fun y => z (V.str.inj y)]
        refine iteF ⟨_, rfl, _, rfl, _, rfl, .ref D, rfl, D, e.row.map (late o m), rfl, .inl (.inl hD), nd, by rw [List.length_map]; omega, fun p H' s' hp => ⟨(show 4 ≤ sizeLine by decide), fun u nu => ?_⟩⟩
        have su := same_new (o := .tup [.str e.name, .int e.fee, .bl e.has, .ref p]) nu
        have en : (mapE (late o m) e).name = e.name := if_neg z
        refine q (.ref u) _ ((sm.trans s').trans su) ⟨u, p, rfl, ?_, .inl (.inl (su _ _ hp))⟩
        rw [en]
        exact .inl (.inl upd_same)
end
end Kn


namespace Kn
open PySem PySem.Spec PyProof.Rows L2
theorem nms_vals (g : Pg) : (g.es.map fun e => V.str e.name) = (nms g).map V.str := by
  rw [List.map_map]
  rfl
theorem out_kind {g : Pg} {dk dl : PyData} (h : byD g dk = none) : outRen g dk dl = .no "kind" := by
  unfold outRen
  rw [h]
theorem out_name {g : Pg} {dk dl : PyData} {e : Ent} (h : byD g dk = some e) (n : ∀ m, dl = .str m → fits g e.name m = false) : outRen g dk dl = .no "name" := by
  unfold outRen
  rw [h]
  cases dl with
  | str m =>
    dsimp only
    rw [n m rfl]
    rfl
  | _ => rfl
theorem out_yes {g : Pg} {dk : PyData} {e : Ent} {m : Str} (h : byD g dk = some e) (f : fits g e.name m = true) : outRen g dk (.str m) = .yes (ren e.name m g) := by
  unfold outRen
  rw [h]
  dsimp only
  rw [f]
  rfl
theorem name_only {dl : PyData} (h : nameB dl = false) : ∀ (g : Pg) (o m : Str), dl = .str m → fits g o m = false := by
  rintro g o m rfl
  unfold fits
  rw [h, Bool.false_and]
section
variable {P : Program} {w : World} {K : PySem.W.Frag} {mg : Str → Option Value} {base : Heap}
theorem ok_ren {f fF fN fM fR fA fI D : Addr} {fd dF dN dM dR dA dI : FuncData} (F : Fun K "renamed" "renamed" (topS 19) f fd) (T : ErrM K mg D fI dI)
    (Fo : Def K mg "form_of" 17 ["web", "kind"] fF dF) (OF : FnOk P w K mg base (L2.CX P w) 3 fF dF ["web", "kind"] (spBy K D fun _ _ r H Q => Q r H))
    (N : Def K mg "is_name" 14 ["thing"] fN dN) (ON : FnOk P w K mg base CX0 1 fN dN ["thing"] (spG K nameB))
    (M : Def K mg "names_of" 16 ["web"] fM dM) (OM : FnOk P w K mg base CX0 1 fM dM ["web"] (spNames K))
    (R : Def K mg "renamed_row" 20 ["row", "old", "name"] fR dR) (OR : FnOk P w K mg base CX0 2 fR dR ["row", "old", "name"] (spRow K))
    (A : Def K mg "ascending" 12 ["things"] fA dA) (OE : FnOk P w K mg base CX0 1 fA dA ["things"] (spAscE K)) :
    FnOk P w K mg base (L2.CX P w) 4 f fd ["web", "kind", "name"] (spRen K D) := by
  have GI : FnOk P w K mg base CX0 1 fI dI ["self", "word", "at"] (spInit K D) := ok_init T
  refine F.okX scRen (fun vs H Q E h => ?_) (fun cdv A' outer s H vs Q E hr h => ?_)
  · obtain ⟨v, k, x, g, dk, dx, rfl, _⟩ := h
    rfl
  · obtain ⟨v, k, x, g, dk, dx, rfl, hP, gd, hk, hs, hx, nx, res⟩ := h
    have hr1 : Room 1 _ := hr.mono (by decide)
    have hr2 : Room 2 _ := hr.mono (by decide)
    refine ⟨_, (pss_cons (ps_set (i := 3) scRen.nd rfl (.inr rfl) (pe_ix ix_tup (pe_call OF hr (by rfl) Fo.m Fo.F.kp Fo.b .nil (passes_call (takes_of rfl rfl rfl rfl) (fun _ _ _ _ h => h)) (pa_cons (pv 0) (pa_cons (pv 1) pa_nil))) pe_int (fun _ _ => rfl)))
      (pss_cons (ps_if (PW.pt (pw_or (pt_not (pt_val (pe_call ON hr1 (by rfl) N.m N.F.kp N.b .nil pass0 (pa_cons (pv 2) pa_nil)))) (pw_or1 (PW.pt (pw_and (pt_cmpR (op_neD hr.units) (pv 2) (pv 3) (nomark _)) (pw_and1 (pt_cmpR (op_inT hr.units) (pv 2) (pe_call OM hr1 (by rfl) M.m M.F.kp M.b .nil pass0 (pa_cons (pv 0) pa_nil)) (by rfl)))))))) (pss_one (ps_raise rfl (takes_of rfl rfl rfl rfl) (pmk_oex T.x T.i T.t GI hr2 T.b .nil pass0 rfl T.m (pa_cons pe_str (pa_cons (pe_un un_neg pe_int) pa_nil))))) pss_nil)
      (pss_cons (ps_asg (pv 0) (pg_tup (by rfl) (pgs_cons (pg_name (i := 4) scRen.nd rfl (.inl rfl)) (pgs_cons (pg_name (i := 5) scRen.nd rfl (.inl rfl)) pgs_nil))))
      (pss_cons (ps_setLc (i := 6) (own := [("row", 7)]) (g := gName 7) (by rfl) scRen.nd rfl rfl (sw_true rfl rfl rfl (by decide +kernel)) (pi_tup (pv 4)) (blkOk_by (own := [("row", 7)]) (N := nRen) (sc := defScope (topS 19)) (by decide +kernel)) (fun _ _ _ _ _ => pg_name (i := 7) scRen.nd rfl (Or.inl rfl)) (fun _ _ _ _ _ => pts_nil) (fun _ _ _ _ _ => (pe_call OR hr2 (by rfl) R.m R.F.kp R.b .nil pass0 (pa_cons (pv 7) (pa_cons (pv 3) (pa_cons (pv 2) pa_nil))))))
      (pss_one (ps_ret (pe_tup (pa_cons (pe_call OE hr1 (by rfl) A.m A.F.kp A.b .nil pass0 (pa_cons (pv 6) pa_nil)) (pa_cons (pe_ifExp (pt_cmpR op_eq (pv 5) (pv 3) (nomark _)) (pv 2) (pv 5)) pa_nil))))))))), ?_⟩
    refine ⟨v, rfl, k, rfl, v, k, g, dk, rfl, hP, gd.ok, gd.sh, hk, hs, ?_⟩
    cases hb : byD g dk with
    | none =>
      rw [out_kind hb] at res
      exact .inr ⟨byD_none hb, res H (Same.refl H)⟩
    | some e =>
      obtain ⟨he, rfl⟩ := byD_is hb
      have en : e.name ∈ nms g := List.mem_map.mpr ⟨e, he, rfl⟩
      refine .inl ⟨e, byD_some hb, fun r hr' => ?_⟩
      obtain ⟨p1, r1, rfl, hp1, hr1'⟩ := id hr'
      refine ⟨p1, _, 0, .str e.name, rfl, rfl, hp1, atI_nat (j := 0) rfl, ?_⟩
      dsimp only [gName]
      refine ⟨x, rfl, x, dx, rfl, hx, nx, fun H1 s1 => ⟨_, rfl, ?_⟩⟩
      have refuse : ∀ H2, Same H H2 → (∀ m, dx = .str m → fits g e.name m = false) → NoUse D "name" H2 E := fun H2 s2 n => by
        rw [out_name hb n] at res
        exact res H2 s2
      cases z1 : nameB dx
      · exact iteT ⟨1, rfl, (show 2 ≤ 1000 by decide), raise_read (W := fun c d H' => E c d H') (refuse H1 s1 (name_only z1 g e.name))⟩
      · obtain ⟨m, rfl⟩ := name_str z1
        have nm := nm_of z1
        cases hx
        refine iteF ⟨_, rfl, _, rfl, .str m, .str e.name, .str m, .str e.name, nx.shaped, gd.sh e he, _, rfl, ?_⟩
        have eq : PyData.eqv (.str m) (.str e.name) = decide (m = e.name) := by
          show (m == e.name) = _
          by_cases q : m = e.name
          · rw [q, decide_eq_true rfl]
            exact beq_self_eq_true _
          · rw [decide_eq_false q]
            exact beq_eq_false_iff_ne.mpr q
        rw [eq]
        by_cases q : m = e.name
        case' pos =>
          rw [decide_eq_true q]
          refine iteF (iteF ?_)
          have free : m = e.name ∨ m ∉ nms g := .inl q
          have s2 := s1
        case' neg =>
          rw [decide_eq_false q]
          refine iteT ?_
          refine ⟨_, rfl, v, rfl, v, g, rfl, hP.same s1, gd.ok, fun pn H2 s12 nn hpn => ⟨pn, .str m, nms g, rfl, by rw [nms_vals] at hpn; exact .inl (.inl hpn), .str m, nx.shaped, (fun t ht => (gd.nm t ht).shaped), _, rfl, ?_⟩⟩
          have s2 := s1.trans s12
          rw [hasT_str]
          by_cases mem : m ∈ nms g
          · rw [decide_eq_true mem]
            refine iteT ⟨1, rfl, (show 2 ≤ 1000 by decide), raise_read (W := fun c d H' => E c d H') (refuse H2 s2 fun m' em => ?_)⟩
            cases em
            unfold fits
            rw [decide_eq_false q, decide_eq_true mem]
            exact Bool.and_false _
          rw [decide_eq_false mem]
          refine iteF ?_
          have free : m = e.name ∨ m ∉ nms g := .inr mem
          clear s1 hpn nn
          generalize H2 = H1 at s2
        all_goals
          have ij := late_inj (o := e.name) gd nm free
          rw [out_yes hb (fits_of nm free)] at res
          obtain ⟨p, qq, ws, rfl, hp, hq, hE⟩ := hP.same s2
          have lw := hE.len
          have l5 := gd.l5
          refine ⟨.ref p, rfl, p, _, rfl, hp, rfl, _, _, rfl, _, _, rfl, rfl, ?_⟩
          dsimp only [gName]
          refine ⟨.ref qq, rfl, qq, rfl, ⟨ws, hq⟩, fun D nD => ?_⟩
          refine lc_tup (K := K) (a := qq) (xs := ws) (fun i G => Same H1 G ∧ ∃ us, G D = some (.lst us) ∧ us.length = i ∧ EntsAt K G us ((g.es.take i).map (mapE (late e.name m)))) ⟨same_new nD, [], upd_same, rfl, .nil⟩ (fun i G _ h => tupS h.1 hq) ?_ ?_
          · rintro i y G hy ⟨sG, us, eD, lu, hU⟩
            obtain ⟨e2, he2, hv2⟩ := hE.get hy
            have m2 := List.mem_of_getElem? he2
            have hi : i < ws.length := (List.getElem?_eq_some_iff.mp hy).1
            refine ⟨rfl, ?_⟩
            simp only [tYes, ↓reduceIte]
            refine ⟨_, rfl, _, rfl, _, rfl, y, e2, e.name, m, rfl, hv2.same sG, Nat.le_trans (gd.rlen m2) (by decide), nodup_map (asc_nd' (gd.row e2 m2).1) (fun a ha b hb' => ij.inj a ((gd.row e2 m2).2 a ha) b ((gd.row e2 m2).2 b hb')), fun r' H' s' hv' => ⟨us, s' _ _ eD, small' (by omega), putS (sG.trans s') nD, us ++ [r'], upd_same, by rw [List.length_append, lu]; rfl, ?_⟩⟩
            have t1 : TS H' (upd H' D (.lst (us ++ [r']))) := ts_lst (s' _ _ eD)
            have e3 : (g.es.take (i + 1)).map (mapE (late e.name m)) = (g.es.take i).map (mapE (late e.name m)) ++ [mapE (late e.name m) e2] := by
              rw [List.take_add_one, he2, List.map_append]
              rfl
            rw [e3]
            exact (EntsAt.ts t1 (hU.same s')).append (.cons (hv'.ts t1) .nil)
          · rintro G ⟨sG, us, eD, lu, hU⟩
            dsimp only [gName]
            rw [List.take_of_length_le (by omega)] at hU
            refine ⟨.ref D, rfl, D, us, _, rfl, .inl (.inl eD), hU, nd_map gd ij, by rw [List.length_map]; omega, fun p3 us3 H3 s3 hT3 hE3 => ⟨_, rfl, _, rfl, rfl, _, rfl, ?_⟩⟩
            have fin : ∀ (z : Str), z = late e.name m g.asks → ∀ t, H3 t = none → Q (.ref t) (upd H3 t (.tup [.ref p3, .str z])) := by
              rintro z rfl t nt
              have st := same_new (o := .tup [.ref p3, .str (late e.name m g.asks)]) nt
              exact res (.ref t) _ (((s2.trans sG).trans s3).trans st) ⟨t, p3, us3, rfl, .inl (.inl upd_same), tupS st hT3, hE3.same st⟩
            by_cases z : g.asks = e.name
            · rw [decide_eq_true (congrArg V.str z)]
              exact iteT ⟨_, rfl, (show 2 ≤ sizeLine by decide), fin m (if_pos z).symm⟩
            · rw [decide_eq_false fun y => z (V.str.inj y)]
              exact iteF ⟨_, rfl, (show 2 ≤ sizeLine by decide), fin g.asks (if_neg z).symm⟩
end
end Kn


namespace Kn
open PySem PySem.Spec PyProof.Rows L2 LamX
/-! ### what stays where tables of lambdas grow -/
theorem ext_ts {H H' : Hp} (e : ExtN H H') : TS H H' := ⟨fun b xs h => e b _ h (fun ps z => by cases z), fun b o xs h => e b _ h (fun ps z => by cases z)⟩
theorem ext_same {H H' : Hp} (s : Same H H') : ExtN H H' := ExtN.of s
theorem ext_lst {H H' : Hp} {a : Addr} {xs : List V} (e : ExtN H H') (h : H a = some (.lst xs)) : H' a = some (.lst xs) := e a _ h (fun ps z => by cases z)
theorem ext_tup {H H' : Hp} {a : Addr} {xs : List V} (e : ExtN H H') (h : H a = some (.tup xs)) : H' a = some (.tup xs) := e a _ h (fun ps z => by cases z)
theorem seqE {K : PySem.W.Frag} {H H' : Hp} {a : Addr} {xs : List V} (e : ExtN H H') (h : SqL K H a xs) : SqL K H' a xs := by
  rcases h with (h | ⟨o, h⟩) | h
  · exact .inl (.inl (e _ _ h (fun ps z => by cases z)))
  · exact .inl (.inr ⟨o, e _ _ h (fun ps z => by cases z)⟩)
  · exact .inr h
mutual
theorem dpE {K : PySem.W.Frag} {H H' : Hp} (e : ExtN H H') : ∀ {v : V} {d : PyData}, Dp K H v d → Dp K H' v d
  | _, _, .non => .non
  | _, _, .bl b => .bl b
  | _, _, .int i => .int i
  | _, _, .str x => .str x
  | _, _, .lst h k => .lst (seqE e h) (dpEs e k)
  | _, _, .tup h k => .tup (tupT (ext_ts e) h) (dpEs e k)
theorem dpEs {K : PySem.W.Frag} {H H' : Hp} (e : ExtN H H') : ∀ {vs : List V} {ds : List PyData}, DpAll K H vs ds → DpAll K H' vs ds
  | _, _, .nil => .nil
  | _, _, .cons a b => .cons (dpE e a) (dpEs e b)
end
theorem Fd.ext {f a : Addr} {ns : List Int} {H H' : Hp} {c : Nat} (h : Fd f a ns H c) (e : ExtN H H') : Fd f a ns H' c := by
  obtain ⟨⟨kvs, t, x, n, h1, h2⟩, h6, h7⟩ := h
  exact ⟨⟨kvs, t, x, n, e _ _ h1 (fun ps z => by cases z), h2⟩, ext_lst e h6, h7⟩
/-- one object but no table or code changes -/
theorem tabs_but {T : List (Addr × Str)} {H H' : Hp} {D : Addr} {o : HO} (t : Tabs T H) (hD : H D = some o) (n1 : ∀ ps, o ≠ .tbl ps) (n2 : ∀ c q, o ≠ CodeO c q) (k : ∀ b u, b ≠ D → H b = some u → H' b = some u) : Tabs T H' := by
  intro p hp
  obtain ⟨ps, h1, h2, h3⟩ := t p hp
  refine ⟨ps, k _ _ (fun z => ?_) h1, h2, fun pos cv hc => ?_⟩
  · rw [z, hD] at h1
    exact n1 ps (Option.some.inj h1)
  · obtain ⟨c, e1, e2⟩ := h3 pos cv hc
    refine ⟨c, e1, k _ _ (fun z => ?_) e2⟩
    rw [z, hD] at e2
    exact n2 _ _ (Option.some.inj e2)
theorem lst_code {xs : List V} (c : Addr) (q : Str) : HO.lst xs ≠ CodeO c q := fun z => by
  unfold CodeO at z
  cases z
theorem dk_code {kvs : List (Key × V)} (c : Addr) (q : Str) : HO.dK kvs ≠ CodeO c q := fun z => by
  unfold CodeO at z
  cases z
theorem tabs_lst {T : List (Addr × Str)} {H : Hp} {D : Addr} {xs : List V} {o : HO} (t : Tabs T H) (hD : H D = some (.lst xs)) : Tabs T (upd H D o) :=
  tabs_but t hD (fun ps z => by cases z) lst_code fun b u n h => by rw [upd_ne n]; exact h
theorem tabs_fd {T : List (Addr × Str)} {f a : Addr} {ns : List Int} {H H' : Hp} {c : Nat} (t : Tabs T H) (d : Fd f a ns H c) (k : Keep f H H') : Tabs T H' := by
  obtain ⟨⟨kvs, _, _, _, h1, _⟩, _, _⟩ := d
  exact tabs_but t h1 (fun ps z => by cases z) dk_code k
/-! ### a def whose code object is known -/
structure FunC (K : PySem.W.Frag) (x : Str) (st : Stmt) (f : Addr) (fd : FuncData) (c : Addr) : Prop where
  ex : ∃ (oc : Value) (od : Option Addr) (kV doc pm : Value) (an : Option Addr) (ct : Value) (osl : Array (Option Value)),
    fd = PySem.W.fnOf x x (defArgs st) (defBody st) (defScope st) .none kV doc pm an (.ref c) ct ∧ K.lookup f = some ⟨oc, od, .func fd, osl⟩ ∧ PySem.W.codeIn K (.ref c) x = true
  kp : PySem.W.keepIn K (.ref f) = true
section
variable {P : Program} {w : World} {K : PySem.W.Frag} {mg : Str → Option Value} {base : Heap} {k : Nat} {f c : Addr} {fd : FuncData} {ps N : List Str} {sp : Sp} {x : Str} {st : Stmt}
theorem Vow.bodyC (F : FunC K x st f fd c) (S : FnScope N ps (defScope st)) (many : ∀ vs H Q E, sp vs H Q E → vs.length = ps.length)
    (hb : ∀ (A : Around) (fr : List Env) (s : Shared) (H : Hp) (vs : List V) (Q : VK) (E : XK), A.guards = some [] → Room k (A.deeper (envOfC x (defScope st) s.heap.objs.size f (.ref c))) → sp vs H Q E →
      ∃ t, PSs (cxOf CX0 P w K mg base N x (defScope st) f (.ref c) A fr s H E).nox (defBody st) t ∧ t { nx := fun _ H' => Q .non H', rt := Q } (start N vs) H) :
    Vow P w K mg base (k + 1) f fd ps sp := by
  obtain ⟨oc, od, kV, doc, pm, an, ct, osl, rfl, look, cdOk⟩ := F.ex
  refine ⟨many, fun A fr s H g us vs Q E hg room z bound rv told => ?_⟩
  have held : ∀ b o, base.get? b = some o → s.heap.get? b = some o := fun b o y => (z.bs b o y).1
  have KS : K.In s.heap := z.mod.kin.keeps held
  have parL : ∀ y ∈ ps.zip us, (defScope st).names.lookup y.1 = some .local ∨ ((defScope st).names.lookup y.1 = some .cell ∧ ((cellsFrom (s.heap.objs.size + 1) (defScope st).names []).lookup y.1).isSome = true) := by
    rintro ⟨n, v⟩ hy
    cases S.par n (List.of_mem_zip hy).1 with
    | inl q => exact .inl q
    | inr q => exact .inr ⟨q, PySem.W.cellsFrom_some _ _ _ (.inl q)⟩
  refine codeAny_call_function room.depth (KS _ _ look) rfl S.co S.gen rfl (PySem.W.codeRec_of KS cdOk) (bound _ _ _ _ ?_)
  refine wpAny_newFunctionEnv_cells S.kind parL ?_
  rintro env rfl s1 y
  refine ⟨(z.mod.nolimit.keeps held).keeps y.toInCall.keep, codeAny_func ?_⟩
  obtain ⟨t, ht, ends⟩ := hb A fr s H vs Q E hg (room.deeper _) told
  have I := inv_start (CX := CX0) (P := P) (mg := mg) (E := E) S room.hd z (many _ _ _ _ told) rv y
  refine wpAny_mono (ht.nox.run [] s1 (start N vs) H _ I ends) ?_ (fun _ _ q => q)
  intro fl s2 hs
  cases fl with
  | ret u => obtain ⟨v, σ2, H2, J, r2, q⟩ := hs; exact ⟨v, H2, J.os, J.bare, J.base, J.hok, r2, q⟩
  | next => obtain ⟨σ2, H2, J, q⟩ := hs; exact ⟨V.non, H2, J.os, J.bare, J.base, J.hok, rfl, q⟩
  | brk => obtain ⟨_, _, _, q⟩ := hs; exact q.elim
  | cont => obtain ⟨_, _, _, q⟩ := hs; exact q.elim
end
/-! ### use, odds -/
abbrev nUse : List Str := ["_law_word"]
theorem scUse : FnScope nUse ["_law_word"] (defScope (topS 31)) := ⟨rfl, rfl, rfl, by decide +kernel, rfl, by decide +kernel, by decide +kernel⟩
abbrev nOdds : List Str := []
theorem scOdds : FnScope nOdds [] (defScope (topS 32)) := ⟨rfl, rfl, rfl, by decide +kernel, rfl, by decide +kernel, by decide +kernel⟩
def spUse : Sp := fun vs H Q _ => ∃ x : V, vs = [x] ∧ ∀ p, H p = none → Q (.ref p) (upd H p (.tup [.str "no", .str "use", x, .int (-1)]))
def odds : List PyData := [.none, .bool true, .int 0, .str "", .str "nobody", .str "A", .str "a b", .str "abcdefghi", .tuple [], .tuple [.str "a"], .list [.str "a"], .tuple [.str "a", .int 1, .bool false, .tuple []], .int (10 ^ (59 : Int).toNat)]
def spOdds (K : PySem.W.Frag) : Sp := fun vs H Q _ => vs = [] ∧ ∀ (L : Addr) (xs : List V) (H' : Hp), Same H H' → H' L = some (.lst xs) → DpAll K H' xs odds → Q (.ref L) H'
section
variable {P : Program} {w : World} {K : PySem.W.Frag} {mg : Str → Option Value} {base : Heap}
theorem ok_use {f : Addr} {fd : FuncData} (F : Fun K "_law_use" "_law_use" (topS 31) f fd) : FnOk P w K mg base CX0 1 f fd ["_law_word"] spUse := by
  refine F.ok scUse (fun vs H Q E h => ?_) (fun cdv A outer s H vs Q E hr h => ?_)
  · obtain ⟨x, rfl, _⟩ := h
    rfl
  · obtain ⟨x, rfl, q⟩ := h
    refine ⟨_, pss_one (ps_ret (pe_tup (pa_cons pe_str (pa_cons pe_str (pa_cons (pv 0) (pa_cons (pe_un un_neg pe_int) pa_nil)))))), ?_⟩
    exact ⟨x, rfl, 1, rfl, (show 4 ≤ sizeLine by decide), q⟩
theorem ok_odds {f : Addr} {fd : FuncData} (F : Fun K "_law_odds" "_law_odds" (topS 32) f fd) : FnOk P w K mg base CX0 1 f fd [] (spOdds K) := by
  refine F.ok scOdds (fun vs H Q E h => ?_) (fun cdv A outer s H vs Q E hr h => ?_)
  · obtain ⟨rfl, _⟩ := h
    rfl
  · obtain ⟨rfl, q⟩ := h
    refine ⟨_, pss_one (ps_ret (pe_lst (pa_cons pe_non (pa_cons pe_bl (pa_cons pe_int (pa_cons pe_str (pa_cons pe_str (pa_cons pe_str (pa_cons pe_str (pa_cons pe_str (pa_cons (pe_tup pa_nil) (pa_cons (pe_tup (pa_cons pe_str pa_nil)) (pa_cons (pe_lst (pa_cons pe_str pa_nil))
      (pa_cons (pe_tup (pa_cons pe_str (pa_cons pe_int (pa_cons pe_bl (pa_cons (pe_tup pa_nil) pa_nil))))) (pa_cons (pe_op op_pow pe_int pe_int) pa_nil))))))))))))))), ?_⟩
    refine ⟨Nat.zero_le _, fun e1 n1 => ⟨(show 1 ≤ sizeLine by decide), fun e2 n2 => ⟨(show 1 ≤ sizeLine by decide), fun e3 n3 => ⟨Nat.zero_le _, fun e4 n4 => ⟨(show 4 ≤ sizeLine by decide), fun e5 n5 => ?_⟩⟩⟩⟩⟩
    refine ⟨10, 59, rfl, rfl, ⟨by decide, by decide, by decide⟩, (show 13 ≤ sizeLine by decide), fun L nL => ?_⟩
    have s1 : Same H (upd H e1 (.tup [])) := same_new n1
    have s2 := same_new (o := .tup [.str "a"]) n2
    have s3 := same_new (o := .lst [.str "a"]) n3
    have s4 := same_new (o := .tup []) n4
    have s5 := same_new (o := .tup [.str "a", .int 1, .bl false, .ref e4]) n5
    have sL := same_new (o := .lst [.non, .bl true, .int 0, .str "", .str "nobody", .str "A", .str "a b", .str "abcdefghi", .ref e1, .ref e2, .ref e3, .ref e5, .int (10 ^ (59 : Int).toNat)]) nL
    refine q L _ _ (((((s1.trans s2).trans s3).trans s4).trans s5).trans sL) upd_same ?_
    refine .cons .non (.cons (.bl _) (.cons (.int _) (.cons (.str _) (.cons (.str _) (.cons (.str _) (.cons (.str _) (.cons (.str _) (.cons (.tup ?_ .nil) (.cons (.tup ?_ (.cons (.str _) .nil)) (.cons (.lst ?_ (.cons (.str _) .nil)) (.cons (.tup (xs := [.str "a", .int 1, .bl false, .ref e4]) ?_ (.cons (.str _) (.cons (.int _) (.cons (.bl _) (.cons (.tup ?_ .nil) .nil))))) (.cons (.int _) .nil))))))))))))
    · exact tupS ((((s2.trans s3).trans s4).trans s5).trans sL) (.inl (.inl upd_same))
    · exact tupS (((s3.trans s4).trans s5).trans sL) (.inl (.inl upd_same))
    · exact ((s4.trans s5).trans sL).seq (.inl (.inl upd_same))
    · exact tupS sL (.inl (.inl upd_same))
    · exact tupS (s5.trans sL) (.inl (.inl upd_same))
end
end Kn


namespace Kn
open PySem PySem.Spec PyProof.Rows L2
abbrev nLabOf : List Str := ["_law_page_here", "_law_entry"]
theorem scLabOf : FnScope nLabOf ["_law_page_here"] (defScope (topS 33)) := ⟨rfl, rfl, rfl, by decide +kernel, rfl, by decide +kernel, by decide +kernel⟩
abbrev nKnown : List Str := ["_law_page_here", "_law_item"]
theorem scKnown : FnScope nKnown ["_law_page_here", "_law_item"] (defScope (topS 34)) := ⟨rfl, rfl, rfl, by decide +kernel, rfl, by decide +kernel, by decide +kernel⟩
abbrev nLate : List Str := ["_law_sign", "_law_label", "_law_one"]
theorem scLate : FnScope nLate ["_law_sign", "_law_label", "_law_one"] (defScope (topS 35)) := ⟨rfl, rfl, rfl, by decide +kernel, rfl, by decide +kernel, by decide +kernel⟩
abbrev nDue : List Str := ["_law_page_here", "_law_sign", "_law_label", "_law_late_here", "_law_own", "_law_cost", "_law_holds", "_law_row", "_law_turned", "_law_mate"]
theorem scDue : FnScope nDue ["_law_page_here", "_law_sign", "_law_label"] (defScope (topS 36)) := ⟨rfl, rfl, rfl, by decide +kernel, rfl, by decide +kernel, by decide +kernel⟩
def spLabOf (K : PySem.W.Frag) : Sp := fun vs H Q _ => ∃ (v : V) (g : Pg), vs = [v] ∧ PgAt K H v g ∧ g.ok ∧ ∀ (L : Addr) (H' : Hp), Same H H' → H L = none → H' L = some (.lst ((g.es.map (·.name)).map V.str)) → Q (.ref L) H'
def spKnown (K : PySem.W.Frag) : Sp := fun vs H Q _ => ∃ (v x : V) (g : Pg) (d : PyData), vs = [v, x] ∧ PgAt K H v g ∧ g.ok ∧ Dp K H x d ∧ ∀ H', Same H H' → Q (.bl (byD g d).isSome) H'
def spLate : Sp := fun vs H Q _ => ∃ o m a : Str, vs = [.str o, .str m, .str a] ∧ Q (.str (late o m a)) H
theorem known_str (g : Pg) (x : Str) : (byD g (.str x)).isSome = decide (x ∈ g.es.map (·.name)) := by
  cases hf : byD g (.str x) with
  | some e =>
    have m : e ∈ g.es := List.mem_of_find?_eq_some hf
    have y := (byD_is hf).2
    have y2 : x = e.name := PyData.str.inj y
    rw [decide_eq_true (List.mem_map.mpr ⟨e, m, y2.symm⟩)]
    rfl
  | none =>
    have no := byD_none hf
    rw [decide_eq_false (fun z => ?_)]
    · rfl
    · obtain ⟨e, he, rfl⟩ := List.mem_map.mp z
      have q := no e he
      have q2 : PyData.eqv (.str e.name) (.str e.name) = true := beq_self_eq_true e.name
      rw [q2] at q
      cases q
theorem known_not {g : Pg} {d : PyData} (h : strB d = false) : (byD g d).isSome = false := by
  cases z : byD g d with
  | none => rfl
  | some e =>
    rw [(byD_is z).2] at h
    cases h
def dUse (w : Str) : PyData := .tuple [.str "no", .str "use", .str w, .int (-1)]
def dOut : Out → PyData
  | .yes g => .tuple [.str "told", dPg g]
  | .no w => dUse w
abbrev useRow (w : Str) : HO := .tup [.str "no", .str "use", .str w, .int (-1)]
theorem dp_use {K : PySem.W.Frag} {H : Hp} {p : Addr} {w : Str} (h : H p = some (useRow w)) : Dp K H (.ref p) (dUse w) := .tup (.inl (.inl h)) (.cons (.str _) (.cons (.str _) (.cons (.str _) (.cons (.int _) .nil))))
theorem dp_told {K : PySem.W.Frag} {H : Hp} {p : Addr} {v : V} {g : Pg} (h : H p = some (.tup [.str "told", v])) (hv : PgAt K H v g) : Dp K H (.ref p) (dOut (.yes g)) := .tup (.inl (.inl h)) (.cons (.str _) (.cons hv.dp .nil))
def OutAt (K : PySem.W.Frag) (H : Hp) (r : V) : Out → Prop
  | .yes g => ∃ (t : Addr) (v : V), r = .ref t ∧ H t = some (.tup [.str "told", v]) ∧ PgAt K H v g
  | .no w => ∃ t : Addr, r = .ref t ∧ H t = some (useRow w)
theorem OutAt.ts {K : PySem.W.Frag} {H H' : Hp} {r : V} {o : Out} (s : TS H H') (h : OutAt K H r o) : OutAt K H' r o := by
  cases o with
  | yes g =>
    obtain ⟨t, v, a, b, c⟩ := h
    exact ⟨t, v, a, s.1 _ _ b, c.ts s⟩
  | no w =>
    obtain ⟨t, a, b⟩ := h
    exact ⟨t, a, s.1 _ _ b⟩
theorem OutAt.dp {K : PySem.W.Frag} {H : Hp} {r : V} {o : Out} (h : OutAt K H r o) : Dp K H r (dOut o) := by
  cases o with
  | yes g =>
    obtain ⟨t, v, rfl, b, c⟩ := h
    exact dp_told b c
  | no w =>
    obtain ⟨t, rfl, b⟩ := h
    exact dp_use b
theorem use_read {K : PySem.W.Frag} {H H0 : Hp} {x : Str} {Q : VK} (s0 : Same H0 H) (q : ∀ (r : V) (H' : Hp), Same H0 H' → OutAt K H' r (.no x) → Q r H') : spUse [.str x] H Q E0 :=
  ⟨.str x, rfl, fun p np => q (.ref p) _ (s0.trans (same_new np)) ⟨p, rfl, upd_same⟩⟩
abbrev vdE (p : EC) : VD := (V.ref p.1, dEnt p.2)
theorem vd_sorted {ps : List EC} {qs : List VD} (nd : (ps.map (·.2.name)).Nodup) (pm : qs.Perm (ps.map vdE)) (pw : qs.Pairwise fun x y => leD (fun p : VD => p.2) x y = true) :
    ∃ rs : List EC, qs = rs.map vdE ∧ rs.Perm ps ∧ rs.map (·.2) = sortE (ps.map (·.2)) := by
  obtain ⟨rs, p, rfl⟩ := lift_perm _ _ pm
  have pw : rs.Pairwise fun x y => leD (fun p : VD => p.2) (vdE x) (vdE y) = true := List.pairwise_map.mp pw
  have nr : (rs.map (·.2.name)).Nodup := ((p.map (·.2.name)).nodup_iff).mpr nd
  have nr : rs.Pairwise fun x y => x.2.name ≠ y.2.name := List.pairwise_map.mp nr
  refine ⟨rs, rfl, p, sortE_of (p.map (·.2)) (by rw [List.map_map]; exact nd) (List.pairwise_map.mpr ?_)⟩
  exact (pw.and nr).imp fun {x y} ⟨a, b⟩ => by
    have a : leD (fun p : Cell => p.2) (cellE x) (cellE y) = true := a
    rwa [le_ent b] at a
def spDue (K : PySem.W.Frag) : Sp := fun vs H Q _ => ∃ (v k x : V) (g : Pg) (dk dx : PyData), vs = [v, k, x] ∧ PgAt K H v g ∧ Gd g ∧ Dp K H k dk ∧ Dp K H x dx ∧ Nice dx ∧ ∀ (r : V) (H' : Hp), Same H H' → OutAt K H' r (outRen g dk dx) → Q r H'
section
variable {P : Program} {w : World} {K : PySem.W.Frag} {mg : Str → Option Value} {base : Heap}
theorem ok_labOf {f : Addr} {fd : FuncData} (F : Fun K "_law_labels_of" "_law_labels_of" (topS 33) f fd) : FnOk P w K mg base CX0 1 f fd ["_law_page_here"] (spLabOf K) := by
  refine F.ok scLabOf (fun vs H Q E h => ?_) (fun cdv A outer s H vs Q E hr h => ?_)
  · obtain ⟨v, g, rfl, _⟩ := h
    rfl
  · obtain ⟨v, g, rfl, ⟨p, r, ws, rfl, hp, hr', hE⟩, ok, q⟩ := h
    have lw := hE.len
    have l12 := ok.1
    refine ⟨_, pss_one (ps_ret (pe_lc (own := [("_law_entry", 1)]) (g := gName 1) (by rfl) scLabOf.nd (pi_tup (pe_ix ix_tup (pv 0) pe_int (fun _ _ => rfl))) (blkOk_by (own := [("_law_entry", 1)]) (N := nLabOf) (sc := defScope (topS 33)) (by decide +kernel))
      (fun _ _ _ _ _ => pg_name (i := 1) scLabOf.nd rfl (Or.inl rfl)) (fun _ _ _ _ _ => pts_nil) (fun _ _ _ _ _ => pe_ix (r := rIxT K) ix_tup (pv 1) pe_int (fun _ _ => rfl)))), ?_⟩
    dsimp only [tRet]
    refine lc_mapT (a := r) (xs := ws) ((g.es.map (·.name)).map V.str) (by simp; omega) (by omega) hr' (fun R k => ⟨.ref p, rfl, p, _, 0, .ref r, rfl, rfl, hp, atI_nat (j := 0) rfl, k⟩) (fun v => rfl) ?_ ?_
    · intro i x y G R hx hy sm k
      obtain ⟨e, he, hv⟩ := hE.get hx
      obtain ⟨z, hz, rfl⟩ := map_get hy
      obtain ⟨e', he', rfl⟩ := map_get hz
      obtain rfl : e = e' := Option.some.inj (he.symm.trans he')
      obtain ⟨p1, r1, rfl, hp1, hr1⟩ := hv.same sm
      exact ⟨.ref p1, rfl, p1, _, 0, _, rfl, rfl, hp1, atI_nat (j := 0) rfl, k G (Same.refl G)⟩
    · intro D G nD sm hD
      exact q D G sm nD hD
theorem ok_known {f fL : Addr} {fd dL : FuncData} (F : Fun K "_law_is_known" "_law_is_known" (topS 34) f fd) (L : Def K mg "_law_labels_of" 33 ["_law_page_here"] fL dL) (OL : FnOk P w K mg base CX0 1 fL dL ["_law_page_here"] (spLabOf K)) (mi : mg "isinstance" = none) (ms : mg "str" = none) :
    FnOk P w K mg base CX0 2 f fd ["_law_page_here", "_law_item"] (spKnown K) := by
  refine F.ok scKnown (fun vs H Q E h => ?_) (fun cdv A outer s H vs Q E hr h => ?_)
  · obtain ⟨v, x, g, d, rfl, _⟩ := h
    rfl
  · obtain ⟨v, x, g, d, rfl, hP, ok, hd, q⟩ := h
    refine ⟨_, pss_one (ps_ret (pe_and (pe_callB call_isi (by rfl) mi boot_isinstance (pa_cons (pv 1) (pa_cons (pe_bltn (v := .ty "str") (by rfl) ms (by decide +kernel) rfl) pa_nil)))
      (pe_one (pe_cmpR op_in_seq (pv 1) (pe_call OL hr (by rfl) L.m L.F.kp L.b .nil pass0 (pa_cons (pv 0) pa_nil)) (by rfl))))), ?_⟩
    refine ⟨x, rfl, x, .ty "str", _, _, _, rfl, .ty "str", ty_of hd, kit_str, _, rfl, ?_⟩
    cases hd with
    | str y =>
      refine iteT ⟨.str y, rfl, v, rfl, v, g, rfl, hP, ok, fun l H' s' nl hl => ⟨l, _, rfl, .inl (.inl (.inl hl)), rfl, flat_strs _, ?_⟩⟩
      rw [if_neg Bool.false_ne_true, inV_strs, ← known_str]
      exact q H' s'
    | non => refine iteF ?_; rw [← known_not (g := g) (d := .none) rfl]; exact q H (Same.refl H)
    | bl b => refine iteF ?_; rw [← known_not (g := g) (d := .bool b) rfl]; exact q H (Same.refl H)
    | int n => refine iteF ?_; rw [← known_not (g := g) (d := .int n) rfl]; exact q H (Same.refl H)
    | lst a b => refine iteF ?_; rw [← known_not (g := g) (d := .list _) rfl]; exact q H (Same.refl H)
    | tup a b => refine iteF ?_; rw [← known_not (g := g) (d := .tuple _) rfl]; exact q H (Same.refl H)
theorem ok_late {f : Addr} {fd : FuncData} (F : Fun K "_law_late" "_law_late" (topS 35) f fd) : FnOk P w K mg base CX0 1 f fd ["_law_sign", "_law_label", "_law_one"] spLate := by
  refine F.ok scLate (fun vs H Q E h => ?_) (fun cdv A outer s H vs Q E hr h => ?_)
  · obtain ⟨o, m, a, rfl, _⟩ := h
    rfl
  · obtain ⟨o, m, a, rfl, q⟩ := h
    refine ⟨_, (pss_one (ps_ret (pe_ifExp (pt_cmpR op_eq (pv 2) (pv 0) (nomark _)) (pv 1) (pv 2)))), ?_⟩
    refine ⟨_, rfl, _, rfl, rfl, _, rfl, ?_⟩
    unfold late at q
    by_cases z : a = o
    · rw [decide_eq_true (congrArg V.str z)]
      rw [if_pos z] at q
      exact iteT ⟨_, rfl, q⟩
    · rw [decide_eq_false fun y => z (V.str.inj y)]
      rw [if_neg z] at q
      exact iteF ⟨_, rfl, q⟩
theorem ok_due {f fK fU fL fT fB : Addr} {fd dK dU dL dT dB : FuncData} (F : Fun K "_law_called_due" "_law_called_due" (topS 36) f fd)
    (Kn : Def K mg "_law_is_known" 34 ["_law_page_here", "_law_item"] fK dK) (OK : FnOk P w K mg base CX0 2 fK dK ["_law_page_here", "_law_item"] (spKnown K))
    (U : Def K mg "_law_use" 31 ["_law_word"] fU dU) (OU : FnOk P w K mg base CX0 1 fU dU ["_law_word"] spUse)
    (L : Def K mg "_law_is_label" 28 ["_law_item"] fL dL) (OL : FnOk P w K mg base CX0 1 fL dL ["_law_item"] (spG K nameB))
    (T : Def K mg "_law_late" 35 ["_law_sign", "_law_label", "_law_one"] fT dT) (OT : FnOk P w K mg base CX0 1 fT dT ["_law_sign", "_law_label", "_law_one"] spLate)
    (B : Def K mg "_law_labels_of" 33 ["_law_page_here"] fB dB) (OB : FnOk P w K mg base CX0 1 fB dB ["_law_page_here"] (spLabOf K)) (mo : mg "sorted" = none) (mt : mg "tuple" = none) :
    FnOk P w K mg base CX0 3 f fd ["_law_page_here", "_law_sign", "_law_label"] (spDue K) := by
  refine F.ok scDue (fun vs H Q E h => ?_) (fun cdv A outer s H vs Q E hr h => ?_)
  · obtain ⟨v, k, x, g, dk, dx, rfl, _⟩ := h
    rfl
  · obtain ⟨v, k, x, g, dk, dx, rfl, hP, gd, hk, hx, nx, q⟩ := h
    have hr1 : Room 1 _ := hr.mono (by decide)
    have hr2 : Room 2 _ := hr.mono (by decide)
    refine ⟨_, (pss_cons (ps_if (pt_not (pt_val (pe_call OK hr2 (by rfl) Kn.m Kn.F.kp Kn.b .nil pass0 (pa_cons (pv 0) (pa_cons (pv 1) pa_nil))))) (pss_one (ps_ret (pe_call OU hr1 (by rfl) U.m U.F.kp U.b .nil pass0 (pa_cons pe_str pa_nil)))) pss_nil)
      (pss_cons (ps_if (PW.pt (pw_or (pt_not (pt_val (pe_call OL hr1 (by rfl) L.m L.F.kp L.b .nil pass0 (pa_cons (pv 2) pa_nil)))) (pw_or1 (PW.pt (pw_and (pt_cmpR (op_neD hr.units) (pv 2) (pv 1) (nomark _)) (pw_and1 (pt_cmpR op_in_seq (pv 2) (pe_call OB hr1 (by rfl) B.m B.F.kp B.b .nil pass0 (pa_cons (pv 0) pa_nil)) (by rfl)))))))) (pss_one (ps_ret (pe_call OU hr1 (by rfl) U.m U.F.kp U.b .nil pass0 (pa_cons pe_str pa_nil)))) pss_nil)
      (pss_cons (ps_set (i := 3) scDue.nd rfl (.inl rfl) (pe_lst pa_nil))
      (pss_cons (ps_for PassesOwn.never rfl (pi_tup (pe_ix ix_tup (pv 0) pe_int (fun _ _ => rfl))) (pg_tup (by rfl) (pgs_cons (pg_name (i := 4) scDue.nd rfl (.inl rfl)) (pgs_cons (pg_name (i := 5) scDue.nd rfl (.inl rfl)) (pgs_cons (pg_name (i := 6) scDue.nd rfl (.inl rfl)) (pgs_cons (pg_name (i := 7) scDue.nd rfl (.inl rfl)) pgs_nil))))) (pss_cons (ps_set (i := 8) scDue.nd rfl (.inl rfl) (pe_callTy call_tuple_of (by rfl) mt (by decide +kernel) (pa_cons (pe_callB cr_sortedS (by rfl) mo (by decide +kernel) (pa_cons (pe_lc (own := [("_law_mate", 9)]) (g := gName 9) (by rfl) scDue.nd (pi_tup (pv 7)) (blkOk_by (own := [("_law_mate", 9)]) (N := nDue) (sc := defScope (topS 36)) (by decide +kernel)) (fun _ _ _ _ _ => pg_name (i := 9) scDue.nd rfl (Or.inl rfl)) (fun _ _ _ _ _ => pts_nil) (fun _ _ _ _ _ => (pe_call OT hr1 (by rfl) T.m T.F.kp T.b .nil pass0 (pa_cons (pv 1) (pa_cons (pv 2) (pa_cons (pv 9) pa_nil)))))) pa_nil)) pa_nil)))
      (pss_one (ps_expr (pe_bm PySem.F.plainAttrs_list PySem.F.slot_list_append PySem.F.type_list_append mt_append (pv 3) (pa_cons (pe_tup (pa_cons (pe_call OT hr1 (by rfl) T.m T.F.kp T.b .nil pass0 (pa_cons (pv 1) (pa_cons (pv 2) (pa_cons (pv 4) pa_nil)))) (pa_cons (pv 5) (pa_cons (pv 6) (pa_cons (pv 8) pa_nil))))) pa_nil))))))
      (pss_one (ps_ret (pe_tup (pa_cons pe_str (pa_cons (pe_tup (pa_cons (pe_callTy call_tuple_of (by rfl) mt (by decide +kernel) (pa_cons (pe_callB (cr_sortedD hr.units) (by rfl) mo (by decide +kernel) (pa_cons (pv 3) pa_nil)) pa_nil)) (pa_cons (pe_call OT hr1 (by rfl) T.m T.F.kp T.b .nil pass0 (pa_cons (pv 1) (pa_cons (pv 2) (pa_cons (pe_ix ix_tup (pv 0) pe_int (fun _ _ => rfl)) pa_nil)))) pa_nil))) pa_nil))))))))), ?_⟩
    refine ⟨v, rfl, k, rfl, v, k, g, dk, rfl, hP, gd.ok, hk, fun H1 s1 => ⟨_, rfl, ?_⟩⟩
    cases hb : byD g dk with
    | none =>
      refine iteT (use_read (K := K) s1 fun r H' s' h' => q r H' s' ?_)
      rw [out_kind hb]
      exact h'
    | some e =>
      obtain ⟨he, rfl⟩ := byD_is hb
      cases hk
      refine iteF ⟨x, rfl, x, dx, rfl, dKeep s1 hx, nx, fun H2 s12 => ⟨_, rfl, ?_⟩⟩
      have s2 := s1.trans s12
      have refuse : ∀ H3, Same H H3 → (∀ m, dx = .str m → fits g e.name m = false) → spUse [.str "name"] H3 (fun v H' => Q v H') E0 := fun H3 s3 n =>
        use_read (K := K) s3 fun r H' s' h' => q r H' s' (by
          rw [out_name hb n]
          exact h')
      cases z1 : nameB dx
      · exact iteT (refuse H2 s2 (name_only z1 g e.name))
      · obtain ⟨m, rfl⟩ := name_str z1
        have nm := nm_of z1
        cases hx
        refine iteF ⟨_, rfl, _, rfl, .str m, .str e.name, .str m, .str e.name, nx.shaped, gd.sh e he, _, rfl, ?_⟩
        have eq : PyData.eqv (.str m) (.str e.name) = decide (m = e.name) := by
          show (m == e.name) = _
          by_cases q : m = e.name
          · rw [q, decide_eq_true rfl]
            exact beq_self_eq_true _
          · rw [decide_eq_false q]
            exact beq_eq_false_iff_ne.mpr q
        rw [eq]
        by_cases qm : m = e.name
        case' pos =>
          rw [decide_eq_true qm]
          refine iteF (iteF ?_)
          have free : m = e.name ∨ m ∉ nms g := .inl qm
          have s3 := s2
        case' neg =>
          rw [decide_eq_false qm]
          refine iteT ⟨_, rfl, v, rfl, v, g, rfl, hP.same s2, gd.ok, fun l H3 s23 nl hl => ⟨l, _, rfl, .inl (.inl (.inl hl)), rfl, flat_strs _, _, rfl, ?_⟩⟩
          have s3 := s2.trans s23
          rw [inV_strs]
          by_cases mem : m ∈ nms g
          · rw [decide_eq_true mem]
            refine iteT (refuse H3 s3 fun m' em => ?_)
            cases em
            unfold fits
            rw [decide_eq_false qm, decide_eq_true mem]
            exact Bool.and_false _
          rw [decide_eq_false mem]
          refine iteF ?_
          have free : m = e.name ∨ m ∉ nms g := .inr mem
          clear s2 s12 hl nl
          generalize H3 = H2 at s3
        all_goals
          have ij := late_inj (o := e.name) gd nm free
          rw [out_yes hb (fits_of nm free)] at q
          obtain ⟨p, qq, ws, rfl, hp, hq, hE⟩ := hP.same s3
          have lw := hE.len
          have l5 := gd.l5
          refine ⟨Nat.zero_le _, fun D nD => ?_⟩
          dsimp only [gName]
          have sD := same_new (o := .lst []) nD
          refine ⟨.ref p, rfl, p, _, 0, .ref qq, rfl, rfl, tupS sD hp, atI_nat (j := 0) rfl, qq, rfl, ⟨ws, tupS sD hq⟩, ?_⟩
          refine for_tup (K := K) (a := qq) (xs := ws) (fun i σ G => ∃ y4 y5 y6 y7 y8 us, σ = [some (.ref p), some (.str e.name), some (.str m), some (.ref D), y4, y5, y6, y7, y8, none] ∧ Same H2 G ∧ G D = some (.lst us) ∧ us.length = i ∧ EntsAt K G us ((g.es.take i).map (mapE (late e.name m))))
            ⟨none, none, none, none, none, [], rfl, sD, upd_same, rfl, .nil⟩ (fun i σ G _ ⟨_, _, _, _, _, _, _, sG, _⟩ => tupS sG hq) ?_ ?_
          · rintro i y σ G hy ⟨y4, y5, y6, y7, y8, us, rfl, sG, eD, lu, hU⟩
            obtain ⟨e2, he2, hv2⟩ := hE.get hy
            have m2 := List.mem_of_getElem? he2
            have hi : i < ws.length := (List.getElem?_eq_some_iff.mp hy).1
            obtain ⟨p2, r2, rfl, hp2, hr2'⟩ := hv2.same sG
            have rl := gd.rlen m2
            refine ⟨p2, _, rfl, hp2, rfl, _, _, rfl, _, _, rfl, _, _, rfl, _, _, rfl, rfl, ?_⟩
            dsimp only [gName]
            refine seq_asg ?_
            dsimp only [tCB, tCons]
            refine (lc_mapT (K := K) (a := r2) (xs := e2.row.map V.str) ((e2.row.map (late e.name m)).map V.str) (by simp) (by simp; omega) hr2' (fun R k => ⟨_, rfl, k⟩) (fun v => rfl) ?_ ?_)
            · intro j z x' G' R hz hx' sm k
              obtain ⟨a, ha, rfl⟩ := map_get hz
              obtain ⟨b, hb1, rfl⟩ := map_get hx'
              obtain ⟨a', ha', rfl⟩ := map_get hb1
              obtain rfl : a = a' := Option.some.inj (ha.symm.trans ha')
              exact ⟨_, rfl, _, rfl, _, rfl, e.name, m, a, rfl, k G' (Same.refl G')⟩
            · intro D2 G2 nD2 sm2 hD2
              have s2' := sG.trans sm2
              refine ⟨D2, e2.row.map (late e.name m), rfl, .inl (.inl hD2), by rw [List.length_map]; omega, fun ys p3 pm so np => ?_⟩
              have e3 := sortS_of pm (sorted_leS so)
              subst e3
              have sp := same_new (o := .lst ((sortS (e2.row.map (late e.name m))).map V.str)) np
              refine ⟨p3, _, rfl, .inl ⟨.inl (.inl upd_same), fun t nt => ?_⟩⟩
              have st := same_new (o := .tup ((sortS (e2.row.map (late e.name m))).map V.str)) nt
              have s3' := sm2.trans (sp.trans st)
              have eD3 := s3' _ _ eD
              have hT : SqT K (upd (upd G2 p3 (.lst ((sortS (e2.row.map (late e.name m))).map V.str))) t (.tup ((sortS (e2.row.map (late e.name m))).map V.str))) t ((sortS (e2.row.map (late e.name m))).map V.str) := .inl (.inl upd_same)
              have hU3 := hU.same s3'
              have sG3 := sG.trans s3'
              dsimp only [gName]
              generalize upd (upd G2 p3 (.lst ((sortS (e2.row.map (late e.name m))).map V.str))) t (.tup ((sortS (e2.row.map (late e.name m))).map V.str)) = G3 at eD3 hT hU3 sG3 ⊢
              refine ⟨.ref D, rfl, .inl ⟨rfl, _, .inl (.inl eD3)⟩, _, rfl, _, rfl, _, rfl, e.name, m, e2.name, rfl, _, rfl, _, rfl, .ref t, rfl, (show 4 ≤ sizeLine by decide), fun u nu => ?_⟩
              have su := same_new (o := .tup [.str (late e.name m e2.name), .int e2.fee, .bl e2.has, .ref t]) nu
              have eD4 := su _ _ eD3
              refine ⟨D, us, _, rfl, rfl, eD4, small' (by omega), ?_⟩
              have t1 : TS (upd G3 u (.tup [.str (late e.name m e2.name), .int e2.fee, .bl e2.has, .ref t])) (upd (upd G3 u (.tup [.str (late e.name m e2.name), .int e2.fee, .bl e2.has, .ref t])) D (.lst (us ++ [.ref u]))) := ts_lst eD4
              have e4 : (g.es.take (i + 1)).map (mapE (late e.name m)) = (g.es.take i).map (mapE (late e.name m)) ++ [mapE (late e.name m) e2] := by
                rw [List.take_add_one, he2, List.map_append]
                rfl
              refine ⟨_, _, _, _, _, us ++ [.ref u], rfl, putS (sG3.trans su) nD, upd_same, by rw [List.length_append, lu]; rfl, ?_⟩
              rw [e4]
              exact (EntsAt.ts t1 (hU3.same su)).append (.cons ⟨u, t, rfl, tupT t1 (.inl (.inl upd_same)), tupT t1 (tupS su hT)⟩ .nil)
          · rintro σ G ⟨y4, y5, y6, y7, y8, us, rfl, sG, eD, lu, hU⟩
            rw [List.take_of_length_le (by omega)] at hU
            obtain ⟨ps, rfl, eps, hps⟩ := ent_cells hU
            have ndp : (ps.map (·.2.name)).Nodup := by
              have z := nd_map gd ij
              rw [eps, List.map_map] at z
              exact z
            have dpp : ∀ c ∈ ps.map vdE, Dp K G c.1 c.2 ∧ c.2.depth ≤ 8 := fun c hc => by
              obtain ⟨y, hy, rfl⟩ := List.mem_map.mp hc
              exact ⟨(hps y hy).dp, depth_ent _⟩
            have al : PySem.W.AllAlike ((ps.map vdE).map (·.2)) := by
              have z := alike_cells ps
              rw [List.map_map] at z ⊢
              exact z
            have sb : PySem.W.Sortable ((ps.map vdE).map (·.2)) := by
              have z := sortable_cells ps
              rw [List.map_map] at z ⊢
              exact z
            refine ⟨.ref D, rfl, D, ps.map vdE, rfl, by rw [List.map_map]; exact .inl (.inl eD), dpp, al, sb, fun l qs nl pm pw => ?_⟩
            obtain ⟨rs, rfl, p2, so⟩ := vd_sorted ndp pm pw
            have sl := same_new (o := .lst ((rs.map vdE).map (·.1))) nl
            refine ⟨l, _, rfl, .inl ⟨.inl (.inl upd_same), fun t nt => ?_⟩⟩
            have st := same_new (o := .tup ((rs.map vdE).map (·.1))) nt
            have sAll := sG.trans (sl.trans st)
            have hTt : SqT K (upd (upd G l (.lst ((rs.map vdE).map (·.1)))) t (.tup ((rs.map vdE).map (·.1)))) t (rs.map fun p => V.ref p.1) := by
              have z : (rs.map vdE).map (·.1) = rs.map fun p => V.ref p.1 := by rw [List.map_map]; rfl
              rw [← z]
              exact .inl (.inl upd_same)
            have hEt : EntsAt K (upd (upd G l (.lst ((rs.map vdE).map (·.1)))) t (.tup ((rs.map vdE).map (·.1)))) (rs.map fun p => V.ref p.1) (sortE (g.es.map (mapE (late e.name m)))) := by
              rw [eps, ← so]
              exact cells_ent fun y hy => (hps y (p2.mem_iff.mp hy)).same (sl.trans st)
            generalize upd (upd G l (.lst ((rs.map vdE).map (·.1)))) t (.tup ((rs.map vdE).map (·.1))) = G3 at sAll hTt hEt ⊢
            refine ⟨_, rfl, _, rfl, .ref p, rfl, p, _, 1, .str g.asks, rfl, rfl, tupS sAll hp, atI_nat (j := 1) rfl, e.name, m, g.asks, rfl, (show 2 ≤ sizeLine by decide), fun u nu => ⟨(show 2 ≤ sizeLine by decide), fun w' nw => ?_⟩⟩
            have su := same_new (o := .tup [.ref t, .str (late e.name m g.asks)]) nu
            have sw := same_new (o := .tup [.str "told", .ref u]) nw
            refine q (.ref w') _ (s3.trans (sAll.trans (su.trans sw))) ⟨w', .ref u, rfl, upd_same, u, t, _, rfl, tupS sw (.inl (.inl upd_same)), tupS (su.trans sw) hTt, hEt.same (su.trans sw)⟩
end
end Kn


namespace Kn
open PySem PySem.Spec PyProof.Rows L2
/-! ### f(x = e): one parameter, given by its name -/
section
variable {X : Cx} {k : Nat} {f : Addr} {fd : FuncData} {y x : Str} {sp : Sp} {p pos kpos : Pos} {e : Expr} {te : TE}
def tKw (sp : Sp) (te : TE) : TE := fun σ H Q => te σ H fun v G => sp [v] G Q E0
theorem pe_kw1 (F : FnOk X.prog X.w X.K X.mg X.base CX0 k f fd [y] sp) (hr : Room k X.A) (hg : Gl X x) (hm : X.mg x = some (.ref f)) (hk : PySem.W.keepIn X.K (.ref f) = true)
    (hb : ∀ (s : Shared) (u : Value), BindsTo s fd ⟨[], [(y, u)]⟩ [(y, u)]) (he : PE X e te) (hdb : (x == ("__debug__" : Str)) = false := by decide)
    (h1 : (backToKw pos (keywordEach [⟨some y, e, kpos⟩] X.env)).all (·.1.isSome) = true := by rfl) (h2 : (backToKw pos (keywordEach [⟨some y, e, kpos⟩] X.env)).filterMap (·.1) = [y] := by rfl)
    (h3 : ((backTo pos (starEach [] X.env)).any (·.1) || (backToKw pos (keywordEach [⟨some y, e, kpos⟩] X.env)).any (·.1.isNone)) = false := by rfl) :
    PE X (.Call (.Name x p) [] [⟨some y, e, kpos⟩] pos) (tKw sp te) := by
  have hkw : PK X [⟨some y, e, kpos⟩] (tCons te tNil) := pk_cons he pk_nil
  refine ⟨fun pins s σ H Q I told => wpAny_Call_Name_kw (ld_glob I hg hm ?_ hdb)⟩
  refine PySem.W.callWith_KW0 (h₀ := X.base) I.ok.mod.kin hk h1 (thn (hkw.run pos pins s σ H (fun vs G => sp vs G Q E0) I told) ?_) h3
  · rintro us s1 ⟨vs, H1, I1, rv, q⟩
    refine ⟨I1.kIn, ?_⟩
    rw [h2]
    have n1 := F.len _ _ _ _ q
    obtain ⟨v, rfl⟩ : ∃ v, vs = [v] := by
      match vs, n1 with
      | [v], _ => exact ⟨v, rfl⟩
    obtain ⟨u, rfl, ru⟩ := vals1 rv
    refine wpAny_call (codeAny_mono (F.run X.A X.stack s1 H1 ⟨[], [(y, u)]⟩ [u] [v] Q E0 hr I1.env0 (hb s1 u) rv q) ?_)
    intro r s2 out
    cases r with
    | error _ => exact False.elim out
    | ok fl =>
      cases fl with
      | ret u => exact I1.after out
      | next => exact False.elim out
      | brk => exact False.elim out
      | cont => exact False.elim out
end
/-! ### f(y1 = e1, y2 = e2), the other way about than the def names them; nothing is raised -/
section
theorem passF {X : Cx} : Passes (L2.CX X.prog X.w) X E0 := by
  rintro pins σ H s e s' I ⟨_, _, _, _, _, _, _, _, _, _, _, _, z⟩
  exact z.elim
variable {X : Cx} {k : Nat} {f : Addr} {fd : FuncData} {y1 y2 x : Str} {sp : Sp} {p pos k1 k2 : Pos} {e1 e2 : Expr} {t1 t2 : TE}
def tKw2 (sp : Sp) (t1 t2 : TE) : TE := fun σ H Q => t1 σ H fun u G => t2 σ G fun v G' => sp [v, u] G' Q E0
theorem pe_kw2 (F : FnOk X.prog X.w X.K X.mg X.base (L2.CX X.prog X.w) k f fd [y2, y1] sp) (hr : Room k X.A) (hg : Gl X x) (hm : X.mg x = some (.ref f)) (hk : PySem.W.keepIn X.K (.ref f) = true)
    (hb : ∀ (s : Shared) (u v : Value), BindsTo s fd ⟨[], [(y1, u), (y2, v)]⟩ [(y2, v), (y1, u)]) (he1 : PE X e1 t1) (he2 : PE X e2 t2) (hdb : (x == ("__debug__" : Str)) = false := by decide)
    (h1 : (backToKw pos (keywordEach [⟨some y1, e1, k1⟩, ⟨some y2, e2, k2⟩] X.env)).all (·.1.isSome) = true := by rfl) (h2 : (backToKw pos (keywordEach [⟨some y1, e1, k1⟩, ⟨some y2, e2, k2⟩] X.env)).filterMap (·.1) = [y1, y2] := by rfl)
    (h3 : ((backTo pos (starEach [] X.env)).any (·.1) || (backToKw pos (keywordEach [⟨some y1, e1, k1⟩, ⟨some y2, e2, k2⟩] X.env)).any (·.1.isNone)) = false := by rfl) :
    PE X (.Call (.Name x p) [] [⟨some y1, e1, k1⟩, ⟨some y2, e2, k2⟩] pos) (tKw2 sp t1 t2) := by
  have hkw : PK X [⟨some y1, e1, k1⟩, ⟨some y2, e2, k2⟩] (tCons t1 (tCons t2 tNil)) := pk_cons he1 (pk_cons he2 pk_nil)
  refine ⟨fun pins s σ H Q I told => wpAny_Call_Name_kw (ld_glob I hg hm ?_ hdb)⟩
  refine PySem.W.callWith_KW0 (h₀ := X.base) I.ok.mod.kin hk h1 (thn (hkw.run pos pins s σ H (fun vs G => ∃ u v, vs = [u, v] ∧ sp [v, u] G Q E0) I ?_) ?_) h3
  · exact (told : t1 σ H fun u G => t2 σ G fun v G' => sp [v, u] G' Q E0) |> fun z => by
      have mono : (tCons t1 (tCons t2 tNil)) σ H (fun vs G => ∃ u v, vs = [u, v] ∧ sp [v, u] G Q E0) = (t1 σ H fun u G => t2 σ G fun v G' => ∃ u' v', [u, v] = [u', v'] ∧ sp [v', u'] G' Q E0) := rfl
      rw [mono]
      have e : (fun (u : V) (G : Hp) => t2 σ G fun v G' => ∃ u' v', [u, v] = [u', v'] ∧ sp [v', u'] G' Q E0) = fun u G => t2 σ G fun v G' => sp [v, u] G' Q E0 := by
        funext u G
        have e2 : (fun (v : V) (G' : Hp) => ∃ u' v', [u, v] = [u', v'] ∧ sp [v', u'] G' Q E0) = fun v G' => sp [v, u] G' Q E0 := by
          funext v G'
          exact propext ⟨fun ⟨u', v', h, q⟩ => by cases h; exact q, fun q => ⟨u, v, rfl, q⟩⟩
        rw [e2]
      rw [e]
      exact z
  · rintro us s1 ⟨vs, H1, I1, rv, u0, v0, rfl, q⟩
    refine ⟨I1.kIn, ?_⟩
    rw [h2]
    cases rv with
    | cons r1 rr =>
      cases rr with
      | cons r2 rr =>
        cases rr
        refine wpAny_call (codeAny_mono (F.run X.A X.stack s1 H1 ⟨[], [(y1, _), (y2, _)]⟩ [_, _] [v0, u0] Q E0 hr I1.env0 (hb s1 _ _) (.cons r2 (.cons r1 .nil)) q) ?_)
        intro r s2 out
        cases r with
        | error e => exact passF pins σ H1 s1 e s2 I1 out
        | ok fl =>
          cases fl with
          | ret u => exact I1.after out
          | next => exact False.elim out
          | brk => exact False.elim out
          | cont => exact False.elim out
end
end Kn


/-! Kn: parts of tuples of data, and two of them together; parts of texts. -/
namespace Kn
open PySem PySem.Spec PyProof.Rows L2
section
variable {K : PySem.W.Frag} {H : Hp} {Q : VK} {r r2 : V} {ds es : List PyData}
theorem slA_any {lo hi : Option Int} (h : Dp K H r (.tuple ds))
    (q : ∀ (r' : V) (H' : Hp), Same H H' → Dp K H' r' (.tuple ((ds.drop (HT.sIx ds.length 0 lo)).take (HT.sIx ds.length ds.length hi - HT.sIx ds.length 0 lo))) → Q r' H') : rSlA K r lo hi H Q := by
  cases h with
  | tup ht hd =>
    rename_i a xs
    have l := dsLen hd
    refine ⟨a, xs, rfl, ht, fun w => ?_, fun _ p np => ?_⟩
    · rw [l] at w
      refine q _ H (Same.refl H) ?_
      rw [w.1, w.2, List.drop_zero, Nat.sub_zero, List.take_length]
      exact .tup ht hd
    · have s := same_new (o := .tup (cutV xs lo hi)) np
      refine q _ _ s (.tup (.inl (.inl upd_same)) ?_)
      unfold cutV
      rw [l]
      exact dsKeep (same_new np) (dsTake _ (dsDrop _ hd))
theorem slA_take {k : Nat} (h : Dp K H r (.tuple ds)) (hk : k ≤ ds.length) (q : ∀ (r' : V) (H' : Hp), Same H H' → Dp K H' r' (.tuple (ds.take k)) → Q r' H') : rSlA K r none (some (k : Int)) H Q :=
  slA_any h fun r' H' s d => q r' H' s (by
    rw [HT.sIx_none, HT.sIx_nat, Nat.min_eq_left hk, List.drop_zero, Nat.sub_zero] at d
    exact d)
theorem slA_drop {k : Nat} (h : Dp K H r (.tuple ds)) (q : ∀ (r' : V) (H' : Hp), Same H H' → Dp K H' r' (.tuple (ds.drop k)) → Q r' H') : rSlA K r (some (k : Int)) none H Q :=
  slA_any h fun r' H' s d => q r' H' s (by
    rw [HT.sIx_none, HT.sIx_nat, List.take_of_length_le (by rw [List.length_drop]; exact Nat.le_refl _)] at d
    by_cases l : k ≤ ds.length
    · rw [Nat.min_eq_left l] at d
      exact d
    · rw [Nat.min_eq_right (by omega), List.drop_of_length_le (Nat.le_refl _)] at d
      rw [List.drop_of_length_le (by omega)]
      exact d)
theorem slA_mid {i j : Nat} (h : Dp K H r (.tuple ds)) (q : ∀ (r' : V) (H' : Hp), Same H H' → Dp K H' r' (.tuple ((ds.drop (min i ds.length)).take (min j ds.length - min i ds.length))) → Q r' H') : rSlA K r (some (i : Int)) (some (j : Int)) H Q :=
  slA_any h fun r' H' s d => q r' H' s (by
    rw [HT.sIx_nat, HT.sIx_nat] at d
    exact d)
theorem catA (h : Dp K H r (.tuple ds)) (k : Dp K H r2 (.tuple es)) (few : ds.length + es.length ≤ 1000) (q : ∀ (r' : V) (H' : Hp), Same H H' → Dp K H' r' (.tuple (ds ++ es)) → Q r' H') : rCatA K r r2 H Q := by
  cases h with
  | tup h1 h2 =>
    rename_i a xs
    cases k with
    | tup k1 k2 =>
      rename_i b ys
      refine ⟨a, b, xs, ys, rfl, rfl, h1, k1, by rw [dsLen h2, dsLen k2]; exact Nat.le_trans few (by decide), fun e => ?_, fun _ e => ?_, fun _ _ p np => ?_⟩
      · subst e
        cases h2
        exact q _ H (Same.refl H) (.tup k1 k2)
      · subst e
        cases k2
        rw [List.append_nil] at q
        exact q _ H (Same.refl H) (.tup h1 h2)
      · have s := same_new (o := .tup (xs ++ ys)) np
        exact q _ _ s (.tup (.inl (.inl upd_same)) (dsKeep s (dsApp h2 k2)))
end
/-! ### texts -/
def asciiB (x : Str) : Bool := x.cps.toList.all fun c => decide (c < 128)
theorem ascii_cut {z : Str} (h : asciiB z = true) (lo hi : Option Int) : asciiB (cutS z lo hi) = true := by
  refine List.all_eq_true.mpr fun c hc => ?_
  have hc : c ∈ ((z.cps.toList.drop (HT.sIx z.length 0 lo)).take (HT.sIx z.length z.length hi - HT.sIx z.length 0 lo)).toArray.toList := hc
  exact List.all_eq_true.mp h c (List.mem_of_mem_drop (List.mem_of_mem_take hc))
theorem ascii_app {x y : Str} (h : asciiB x = true) (k : asciiB y = true) : asciiB (x ++ y) = true := by
  unfold asciiB at *
  rw [Str.cps_append, Array.toList_append, List.all_append, h, k]
  rfl
theorem slen_app (x y : Str) : (x ++ y).length = x.length + y.length := by
  show (x ++ y).cps.size = x.cps.size + y.cps.size
  rw [Str.cps_append, Array.size_append]
end Kn


namespace Kn
open PySem PySem.Spec PyProof.Rows L2
/-! ### sum of a tuple of numbers -/
section
variable {prog : Program} {w : World} {A : Around} {E : Value → Shared → Prop} {s : Shared} {l : Addr} {xs : Array (Int × Tok)}
theorem iter_intTup {Q : Value → Shared → Prop} (hl : s.heap.IsTuple l (intItems xs))
    (h : ∀ s₂ : Shared, s₂ = { s with heap := s.heap.push { cls := .type "tuple_iterator", data := .fields #[.ref l, .int 0 0] } } →
      (s₂.heap.IsTupleIter s.heap.objs.size l 0 ∧ s₂.heap.IsTuple l (intItems xs)) → (∀ b ∈ [s.heap.objs.size, l], b < s₂.heap.objs.size) → l ≠ s.heap.objs.size → Q (.ref s.heap.objs.size) s₂) :
    wpAny (model prog w) A (pyIter (.ref l)) Q E s := by
  have hlt : l < s.heap.objs.size := by obtain ⟨_, e, _⟩ := hl; exact Heap.lt_size e
  refine wpAny_pyIter_tuple hl (h _ rfl ⟨⟨_, Heap.get?_push_size _ rfl, rfl, rfl⟩, hl.push _⟩ (fun b hb => ?_) (Nat.ne_of_lt hlt))
  show b < (s.heap.push _).objs.size
  rw [Heap.size_push]
  rcases List.mem_cons.mp hb with rfl | hb
  · exact Nat.lt_succ_self _
  · rcases List.mem_cons.mp hb with rfl | hb
    · exact Nat.lt_succ_of_lt hlt
    · cases hb
theorem old_keptT {h' : Heap} (hk : ∀ b o, b ∉ [s.heap.objs.size] → (s.heap.push { cls := .type "tuple_iterator", data := .fields #[.ref l, .int 0 0] }).get? b = some o → h'.get? b = some o) :
    ∀ b o, s.heap.get? b = some o → h'.get? b = some o := fun b o e => by
  refine hk b o (fun hm => ?_) (Heap.get?_push_of_some _ e)
  rcases List.mem_cons.mp hm with e1 | hm
  · exact absurd (e1 ▸ Heap.lt_size e) (Nat.lt_irrefl _)
  · cases hm
theorem sum_tupG {Q : Value → Shared → Prop} (hh : A.handled = none) (hl : s.heap.IsTuple l (intItems xs))
    (h : ∀ h' tk t', (∀ b o, s.heap.get? b = some o → h'.get? b = some o) → Q (.int (preSum (numAt xs) xs.size) t') { s with heap := h', toks := tk }) :
    wpAny (model prog w) A (call (.builtin "sum") [.ref l]) Q E s := by
  refine call_sum_walkG (iter_intTup hl fun s₂ e st hfp hlI => ?_)
  subst e
  refine ⟨_, _, _, _, _, _, numAt xs, rfl, Walks.tuple (A := A.in1) hh _ l hlI (intItems xs), st, hfp, (fun _ _ => intItems_at), fun h' tk t' hk => ?_⟩
  have := h h' tk t' (old_keptT hk)
  simpa [intItems] using this
theorem sum_rawT {its : List Value} {ns : List Int} {Q : Value → Shared → Prop} (hh : A.handled = none) (hl : s.heap.IsTuple l its.toArray) (hi : IntsAre its ns)
    (h : ∀ h' tk t', (∀ b o, s.heap.get? b = some o → h'.get? b = some o) → Q (.int ns.sum t') { s with heap := h', toks := tk }) : wpAny (model prog w) A (call (.builtin "sum") [.ref l]) Q E s := by
  obtain ⟨xs, e⟩ := hi.allInts.items
  have hn : numsOf (intItems xs).toList = ns := by rw [← e]; exact hi.numsOf
  rw [nums_intItems] at hn
  rw [e] at hl
  refine sum_tupG hh hl fun h' tk t' hk => ?_
  have := h h' tk t' hk
  rw [preSum_eq, List.take_of_length_le (by simp), hn]; exact this
end
def rSumT (K : PySem.W.Frag) : List V → Hp → VK → Prop := fun vs H Q => ∃ (a : Addr) (ns : List Int), vs = [V.ref a] ∧ SqT K H a (ns.map V.int) ∧ Q (.int ns.sum) H
section
variable {X : Cx}
theorem cr_sumT (hc : X.calm = true) : CallR X (.builtin "sum") (rSumT X.K) := by
  intro pins s σ H vs us Q I r h
  obtain ⟨a, ns, rfl, hs, q⟩ := h
  obtain ⟨its, rv, hl, _⟩ := I.tuple hs
  rw [Vals.ref1 r]
  exact sum_rawT (I.ok.hd hc) hl rv.ints fun h' tk t' hk => ⟨.int _, H, I.kept hk, ⟨_, rfl⟩, q⟩
/-! ### tuple * n, n from 1 on -/
theorem tuple_mulW1 (l : Addr) (items : Array Value) (n : Nat) (dd : Option Addr) (sl : Array (Option Value)) (u : Tok) :
    Meets (Builtin.«tuple.__mul__» ⟨[.ref l, .int 1 u], []⟩) (fun _ R s => s.heap.get? l = some { cls := .type "tuple", dict := dd, data := .seq items n, slots := sl } ∧ R (.ok (.ret (Value.ref l))) s) :=
  .of_wp fun prog w A R s h => by
    obtain ⟨hp, g, d, tk, os⟩ := s
    obtain ⟨hl, h⟩ := h
    have f1 := AutoSeq1.idx_int
    wp_walk using wpAny_loadPart' hl
    all_goals exact ⟨_, rfl, h⟩
def rMulT (K : PySem.W.Frag) : R2 := fun x y H Q => ∃ l k xs, x = .ref l ∧ y = .int k ∧ SqT K H l xs ∧ xs ≠ [] ∧ 1 ≤ k ∧ k ≤ 1000 ∧ xs.length ≤ 1000 ∧ (k = 1 → Q (.ref l) H) ∧ ∀ p, H p = none → Q (.ref p) (upd H p (.tup (List.replicate k.toNat xs).flatten))
theorem op_mulT : OpR X (binaryOp .Mult) (rMulT X.K) := by
  intro pins s σ H x y v u Q I rx ry h
  obtain ⟨l, k, xs, rfl, rfl, hT, hne, h1, h2, hz, q1, q⟩ := h
  by_cases k1 : k = 1
  · subst k1
    cases rx
    obtain ⟨t, rfl⟩ := ry
    obtain ⟨its, r, ⟨⟨cls, dd, data, sl⟩, ho, hc, n, hd⟩, hs⟩ := I.tuple hT
    simp only at hc hd
    subst hc hd
    refine wpAny_binaryOp_repeat_ref (T := "tuple") (U := "int") (by decide) ⟨_, ho, rfl⟩ (fun s' => typeIs_int s' 1 t) noFill_tuple_mul F.fills_int_mul F.slot_int_rmul repeat_tuple F.slot_int_index.lookup
      (call_meets F.slot_int_rmul (typeIs_int s 1 t) F.entry_int_rmul (F.args_int_rmul_2 _ _) (int_rmul_tuple 1 t l its.toArray n dd sl)
        ⟨ho, rfl, ⟨_, ho, rfl⟩, call_meets F.slot_tuple_mul ⟨_, ho, rfl⟩ F.entry_tuple_mul (F.args_tuple_mul_2 _ _) (tuple_mulW1 l its.toArray n dd sl t) ⟨ho, ?_⟩⟩)
    exact ⟨.ref l, H, I, rfl, q1 rfl⟩
  · exact op_repT pins s σ H _ _ v u Q I rx ry ⟨l, k, xs, rfl, rfl, hT, hne, by omega, h2, hz, q⟩
/-! ### tuple(list), the new object known -/
def rTupF (K : PySem.W.Frag) : List V → Hp → VK → Prop := fun xs H Q => ∃ p ys, xs = [.ref p] ∧ SqL K H p ys ∧ ∀ l o, H l = none → o.cls = .type "tuple" → o.dict = none → Q (.ref l) (upd H l (.frz o (.tup ys)))
theorem call_tupleF : CallR X (.type "tuple") (rTupF X.K) := by
  intro pins s σ H xs us Q I r h
  obtain ⟨p, ys, rfl, hq, q⟩ := h
  obtain ⟨u, rfl, rx⟩ := vals1 r
  cases rx
  obtain ⟨its, r', pl, hz⟩ := I.list hq
  have hlen := r'.length
  refine call_tuple_list pl.isList (fun h' kp => ?_) (by simp only [List.size_toArray] <;> omega)
  have I1 : Inv X pins σ H { s with heap := h' } := I.kept (t' := s.toks) kp
  have I2 : Inv X pins σ (upd H h'.objs.size (.frz { cls := .type "tuple", data := .seq its.toArray } (.tup ys))) { s with heap := h'.push { cls := .type "tuple", data := .seq its.toArray } } :=
    I1.laid (t' := s.toks) (fun b o e => Heap.get?_push_of_some _ e) (Nat.le_refl _) (show ObjOk X.prog X.w _ _ _ (.frz _ (.tup ys)) from ⟨Heap.get?_push_size _ rfl, hz, its, r', IsTup.new _ _⟩)
  exact ⟨.ref h'.objs.size, _, I2, rfl, q _ _ (I1.hok.fresh (Nat.le_refl _)) rfl rfl⟩
/-! ### t.index(x), t a tuple whose object is known -/
def tTIdx (K : PySem.W.Frag) (to : TE) (t : TA) : TE := fun σ H Q => to σ H fun x H1 => ∃ p o ys, x = .ref p ∧ H1 p = some (.frz o (.tup ys)) ∧ o.cls = .type "tuple" ∧ o.dict = none ∧
  t σ H1 fun xs H2 => ∃ (zs : List Str) (z : Str) (j : Nat), xs = [.str z] ∧ SqT K H2 p (zs.map V.str) ∧ zs[j]? = some z ∧ (∀ m, m < j → zs[m]? ≠ some z) ∧ Q (.int (j : Nat)) H2
variable {o e : Expr} {es : List Expr} {to : TE} {t : TA} {apos cpos : Pos}
theorem pe_tidx (ho : PE X o to) (ha : PA X (e :: es) t)
    (hbase : attributeBase o "index" X.env (eval o X.env) = eval o X.env := by rfl)
    (hfew : ((backTo cpos (starEach (e :: es) X.env)).all (fun x => !x.1) && (backToKw cpos (keywordEach [] X.env)).all (fun x => x.1.isSome)
      && decide ((e :: es).length + ([] : List Keyword).length + (if ([] : List Keyword).isEmpty then 0 else 1) < 30)) = true := by rfl)
    (hline : (apos.endLine == cpos.line) = true := by rfl) (hs : starEach (e :: es) X.env = (false, eval e X.env) :: starEach es X.env := by rfl) (hplain : (backTo cpos (starEach es X.env)).any (·.1) = false := by rfl) :
    PE X (.Call (.Attribute o "index" apos) (e :: es) [] cpos) (tTIdx X.K to t) := by
  refine ⟨fun pins s σ H Q I h => ?_⟩
  refine wpAny_Call_method_late hbase hfew hline rfl (thn (ho.run pins s σ H _ I h) fun v s1 ⟨x, H1, I1, r1, q1⟩ => ?_)
  obtain ⟨p, ob, ys, rfl, hp, hc, hd, q1⟩ := q1
  have hb : s1.heap.get? p = some ob := (I1.hok p _ hp).1
  cases r1
  refine ⟨"tuple", "tuple.index", PySem.F.plainAttrs_tuple, PySem.F.slot_tuple_index, PySem.F.type_tuple_index, ⟨ob, hb, hc⟩, fun a e => ?_, ?_⟩
  · cases e
    exact ⟨ob, hb, hd⟩
  have hA := ha.run cpos pins s1 σ H1 _ I1 q1
  rw [hs] at hA ⊢
  refine Calls.callWith_builtin (by show (false || (backTo cpos (starEach es X.env)).any (·.1)) = false; rw [hplain] <;> rfl) (Calls.evalArgs_plain ?_)
  exact thn hA fun us s2 ⟨vs, H2, I2, r2, zs, z, j, e1, e2, e3, e4, q2⟩ => mt_tup_index pins s2 σ H2 (.ref p) vs (.ref p) us Q I2 rfl r2 ⟨p, zs, z, j, rfl, e1, e2, e3, e4, q2⟩
end
end Kn


namespace Kn
open PySem PySem.Spec PyProof.Rows L2
/-! ### expressions that make data of what the slots hold -/
section
variable {K : PySem.W.Frag} {σ : L2.St} {H0 : Hp}
def DX (K : PySem.W.Frag) (σ : L2.St) (H0 : Hp) (t : TE) (d : PyData) : Prop := ∀ (H : Hp) (Q : VK), Same H0 H → (∀ (v : V) (H' : Hp), Same H H' → Dp K H' v d → Q v H') → t σ H Q
def AX (K : PySem.W.Frag) (σ : L2.St) (H0 : Hp) (t : TA) (ds : List PyData) : Prop := ∀ (H : Hp) (Q : List V → Hp → Prop), Same H0 H → (∀ (vs : List V) (H' : Hp), Same H H' → DpAll K H' vs ds → Q vs H') → t σ H Q
variable {t u : TE} {ta : TA} {d : PyData} {ds es : List PyData}
theorem dx_of (h : DE K t d) : DX K σ H0 t d := fun H Q _ q => h σ H Q q
theorem dx_var {i : Nat} {v : V} (e : σ[i]? = some (some v)) (h : Dp K H0 v d) : DX K σ H0 (tVar i) d := fun H Q s q => ⟨v, e, q v H (Same.refl H) (dKeep s h)⟩
theorem ax_nil : AX K σ H0 tNil [] := fun H _ _ q => q _ H (Same.refl H) .nil
theorem ax_cons (h : DX K σ H0 t d) (k : AX K σ H0 ta ds) : AX K σ H0 (tCons t ta) (d :: ds) := fun H Q s q => h H _ s fun v H1 s1 d1 => k H1 _ (s.trans s1) fun vs H2 s2 d2 => q _ H2 (s1.trans s2) (.cons (dKeep s2 d1) d2)
theorem dx_tup (h : AX K σ H0 ta ds) (few : ds.length ≤ 1000) : DX K σ H0 (tTup ta) (.tuple ds) := fun H Q s q => h H _ s fun vs H1 s1 d1 => by
  refine ⟨by rw [dsLen d1]; exact Nat.le_trans few (by decide), fun p np => ?_⟩
  have s2 := same_new (o := .tup vs) np
  exact q _ _ (s1.trans s2) (.tup (.inl (.inl upd_same)) (dsKeep s2 d1))
theorem dx_cat (h : DX K σ H0 t (.tuple ds)) (k : DX K σ H0 u (.tuple es)) (few : ds.length + es.length ≤ 1000) : DX K σ H0 (tOp (rCatA K) t u) (.tuple (ds ++ es)) := fun H Q s q =>
  h H _ s fun v H1 s1 d1 => k H1 _ (s.trans s1) fun v2 H2 s2 d2 => catA (dKeep s2 d1) d2 few fun r H3 s3 d3 => q r H3 ((s1.trans s2).trans s3) d3
theorem dx_tail (h : DX K σ H0 t (.tuple ds)) : DX K σ H0 (tSl (rSlA K) t (tPart (tC (.int 1))) tNoPart) (.tuple (ds.drop 1)) := fun H Q s q =>
  h H _ s fun v H1 s1 d1 => ⟨1, rfl, slA_drop (k := 1) d1 fun r H2 s2 d2 => q r H2 (s1.trans s2) d2⟩
theorem dx_front (h : DX K σ H0 t (.tuple ds)) (ne : 0 < ds.length) : DX K σ H0 (tSl (rSlA K) t tNoPart (tPart (tUn (rU fun i => .int (-i)) (tC (.int 1))))) (.tuple (ds.take (ds.length - 1))) := fun H Q s q =>
  h H _ s fun v H1 s1 d1 => ⟨1, rfl, -1, rfl, slA_any d1 fun r H2 s2 d2 => q r H2 (s1.trans s2) (by
    have e : HT.sIx ds.length ds.length (some (-1)) = ds.length - 1 := by
      show (if (-1 : Int) < 0 then ((-1 : Int) + (ds.length : Nat)).toNat else min (-1 : Int).toNat ds.length) = _
      rw [if_pos (by decide)]
      omega
    rw [e, HT.sIx_none, List.drop_zero, Nat.sub_zero] at d2
    exact d2)⟩
theorem dx_list (h : DX K σ H0 t (.tuple ds)) : DX K σ H0 (tCB (fun xs H Q => ∃ p ys, xs = [.ref p] ∧ (SqL K H p ys ∨ SqT K H p ys) ∧ ∀ l, H l = none → Q (.ref l) (upd H l (.lst ys))) (tCons t tNil)) (.list ds) := fun H Q s q =>
  h H _ s fun v H1 s1 d1 => by
    cases d1 with
    | tup ht hds =>
      rename_i a xs
      refine ⟨_, _, rfl, .inr ht, fun l nl => ?_⟩
      have s2 := same_new (o := .lst xs) nl
      exact q _ _ (s1.trans s2) (.lst (.inl (.inl upd_same)) (dsKeep s2 hds))
theorem dx_mul (h : DX K σ H0 t (.tuple ds)) (pos : 0 < ds.length) (few : ds.length ≤ 1000) :
    DX K σ H0 (tOp (rMulT K) (tTup (tCons (tC (.bl true)) tNil)) (tCB (fun xs H Q => ∃ p ys, xs = [.ref p] ∧ (SqL K H p ys ∨ SqT K H p ys) ∧ Q (.int ys.length) H) (tCons t tNil))) (.tuple (List.replicate ds.length (.bool true))) := fun H Q s q => by
  refine ⟨(show 1 ≤ sizeLine by decide), fun p np => ?_⟩
  have s1 := same_new (o := .tup [.bl true]) np
  refine h _ _ (s.trans s1) fun v H1 s2 d1 => ?_
  cases d1 with
  | tup ht hds =>
    rename_i a xs
    have lx := dsLen hds
    refine ⟨a, xs, rfl, .inr ht, p, (xs.length : Nat), [.bl true], rfl, rfl, .inl (.inl (s2 _ _ upd_same)), (fun z => by cases z), by omega, by omega, (show 1 ≤ 1000 by decide), fun k1 => ?_, fun p2 np2 => ?_⟩
    · have e : ds.length = 1 := by omega
      rw [e] at q
      exact q _ _ (s1.trans s2) (.tup (.inl (.inl (s2 _ _ upd_same))) (.cons (.bl true) .nil))
    · have s3 := same_new (o := .tup (List.replicate ((xs.length : Nat) : Int).toNat [V.bl true]).flatten) np2
      refine q _ _ ((s1.trans s2).trans s3) (.tup (.inl (.inl upd_same)) ?_)
      have rep : ∀ n : Nat, DpAll K (upd H1 p2 (.tup (List.replicate ((xs.length : Nat) : Int).toNat [V.bl true]).flatten)) (List.replicate n [V.bl true]).flatten (List.replicate n (.bool true)) := by
        intro n
        induction n with
        | zero => exact .nil
        | succ n ih => exact .cons (.bl true) ih
      have e : ((xs.length : Nat) : Int).toNat = ds.length := by omega
      rw [e] at rep ⊢
      exact rep _
theorem lx_lst (h : AX K σ H0 ta ds) (few : ds.length ≤ 1000) {H : Hp} {Q : VK} (s : Same H0 H) (q : ∀ (l : Addr) (vs : List V) (H' : Hp), Same H H' → H l = none → H' l = some (.lst vs) → DpAll K H' vs ds → Q (.ref l) H') : tLst ta σ H Q :=
  h H _ s fun vs H1 s1 d1 => by
    refine ⟨by rw [dsLen d1]; exact Nat.le_trans few (by decide), fun p np => ?_⟩
    have s2 := same_new (o := .lst vs) np
    exact q p vs _ (s1.trans s2) (s1.free np) upd_same (dsKeep s2 d1)
/-- a list, more items behind it; what it is made of stays as it was before the sum -/
theorem lx_grow {l : Addr} {vs : List V} {H : Hp} {Q : VK} (e : H l = some (.lst vs)) (d1 : DpAll K H vs ds) (hs : Same H0 H) (ht : ∀ R : VK, R (.ref l) H → t σ H R) (k : AX K σ H0 ta es) (few : ds.length + es.length ≤ 1000)
    (q : ∀ (p : Addr) (ws : List V) (G : Hp), Same H G → G p = none → DpAll K G ws (ds ++ es) → Q (.ref p) (upd G p (.lst ws))) : tOp rCat t (tLst ta) σ H Q := by
  refine ht _ (lx_lst k (Nat.le_trans (Nat.le_add_left _ _) few) hs fun r ws H2 s2 n2 e2 d2 => ?_)
  refine ⟨l, r, vs, ws, rfl, rfl, s2 _ _ e, e2, by rw [dsLen d1, dsLen d2]; exact Nat.le_trans few (by decide), fun p np => ?_⟩
  exact q p _ H2 s2 np (dsApp (dsKeep s2 d1) d2)
theorem dx_ix {v : V} {e : PyData} {i j : Nat} {ds : List PyData} (ev : σ[i]? = some (some v)) (h : Dp K H0 v (.tuple ds)) (at_ : ds[j]? = some e) : DX K σ H0 (tOp (rIxT K) (tVar i) (tC (.int (j : Nat)))) e := fun H Q s q => by
  cases dKeep s h with
  | tup ht hd =>
    rename_i a xs
    obtain ⟨x, hx⟩ : ∃ x, xs[j]? = some x := ⟨xs[j]'(by have := dsLen hd; have := (List.getElem?_eq_some_iff.mp at_).1; omega), List.getElem?_eq_getElem _⟩
    obtain ⟨e', he', dp⟩ := dsAt hd j x hx
    obtain rfl : e' = e := Option.some.inj (he'.symm.trans at_)
    exact ⟨.ref a, ev, a, xs, (j : Nat), x, rfl, rfl, ht, atI_nat hx, q x H (Same.refl H) dp⟩
theorem dx_rev (h : DX K σ H0 t (.tuple ds)) : DX K σ H0 (tRevT K t) (.tuple ds.reverse) := fun H Q s q => h H _ s fun v H1 s1 d1 => by
  cases d1 with
  | tup ht hd =>
    rename_i a xs
    refine ⟨a, xs, rfl, ht, fun p np => ?_⟩
    have s2 := same_new (o := .tup xs.reverse) np
    exact q _ _ (s1.trans s2) (.tup (.inl (.inl upd_same)) (dsKeep s2 (dsRev hd)))
theorem dx_take {i k : Nat} (h : DX K σ H0 t (.tuple ds)) (e : σ[i]? = some (some (.int (k : Nat)))) (hk : k ≤ ds.length) : DX K σ H0 (tSl (rSlA K) t tNoPart (tPart (tVar i))) (.tuple (ds.take k)) := fun H Q s q =>
  h H _ s fun v H1 s1 d1 => ⟨.int (k : Nat), e, (k : Nat), rfl, slA_take (k := k) d1 hk fun r H2 s2 d2 => q r H2 (s1.trans s2) d2⟩
theorem dx_take1 {i k : Nat} (h : DX K σ H0 t (.tuple ds)) (e : σ[i]? = some (some (.int (k : Nat)))) (hk : k + 1 ≤ ds.length) : DX K σ H0 (tSl (rSlA K) t tNoPart (tPart (tOp (rI0 fun i j => .int (i + j)) (tVar i) (tC (.int 1))))) (.tuple (ds.take (k + 1))) := fun H Q s q =>
  h H _ s fun v H1 s1 d1 => ⟨.int (k : Nat), e, (k : Nat), 1, rfl, rfl, ((k + 1 : Nat) : Int), rfl, slA_take (k := k + 1) d1 hk fun r H2 s2 d2 => q r H2 (s1.trans s2) d2⟩
theorem dx_drop {i k : Nat} (h : DX K σ H0 t (.tuple ds)) (e : σ[i]? = some (some (.int (k : Nat)))) : DX K σ H0 (tSl (rSlA K) t (tPart (tVar i)) tNoPart) (.tuple (ds.drop k)) := fun H Q s q =>
  h H _ s fun v H1 s1 d1 => ⟨.int (k : Nat), e, (k : Nat), rfl, slA_drop (k := k) d1 fun r H2 s2 d2 => q r H2 (s1.trans s2) d2⟩
theorem dx_drop1 {i k : Nat} (h : DX K σ H0 t (.tuple ds)) (e : σ[i]? = some (some (.int (k : Nat)))) : DX K σ H0 (tSl (rSlA K) t (tPart (tOp (rI0 fun i j => .int (i + j)) (tVar i) (tC (.int 1)))) tNoPart) (.tuple (ds.drop (k + 1))) := fun H Q s q =>
  h H _ s fun v H1 s1 d1 => ⟨.int (k : Nat), e, (k : Nat), 1, rfl, rfl, ((k + 1 : Nat) : Int), rfl, slA_drop (k := k + 1) d1 fun r H2 s2 d2 => q r H2 (s1.trans s2) d2⟩
theorem dx_not {i : Nat} {b : Bool} (e : σ[i]? = some (some (.bl b))) : DX K σ H0 (tNotV (tVar i)) (.bool (!b)) := fun H Q s q => ⟨_, e, b, rfl, q _ H (Same.refl H) (.bl _)⟩
end
end Kn


namespace Kn
open PySem PySem.Spec PyProof.Rows L2
/-! ### repr of any data -/
def rShowV (K : PySem.W.Frag) : List V → Hp → VK → Prop := fun xs H Q => ∃ (v : V) (d : PyData), xs = [v] ∧ Dp K H v d ∧ d.showable = true ∧ d.hasDict = false ∧ d.depth ≤ 20 ∧ d.shown.length ≤ sizeLine ∧ Q (.str d.shown) H
theorem call_showV {X : Cx} (hq : X.A.guards = some []) (hu : X.A.units + 64 < cLine) : CallR X (.builtin "repr") (rShowV X.K) := by
  rintro pins s σ H xs us Q I rv ⟨v, d, rfl, hd, h1, h2, h3, h4, q⟩
  cases hd with
  | non =>
    obtain ⟨u, rfl, rfl⟩ := vals1 rv
    exact PySem.P.repr_of_none ⟨.str _, H, I.tok _, ⟨_, rfl⟩, q⟩
  | bl b =>
    obtain ⟨u, rfl, rfl⟩ := vals1 rv
    refine PySem.P.repr_of_bool ⟨.str (PyData.bool b).shown, H, I.tok _, ⟨s.toks, ?_⟩, q⟩
    cases b <;> rfl
  | int i =>
    obtain ⟨u, rfl, t, rfl⟩ := vals1 rv
    exact PySem.P.repr_of_int (of_decide_eq_true h1) ⟨.str _, H, I.tok _, ⟨_, rfl⟩, q⟩
  | str x =>
    obtain ⟨u, rfl, t, rfl⟩ := vals1 rv
    exact PySem.P.repr_of_str ⟨.str _, H, I.tok _, ⟨_, rfl⟩, q⟩ h4
  | lst a b => exact call_show hq hu pins s σ H _ us Q I rv ⟨_, _, rfl, .lst a b, h1, h2, h3, h4, q⟩
  | tup a b => exact call_show hq hu pins s σ H _ us Q I rv ⟨_, _, rfl, .tup a b, h1, h2, h3, h4, q⟩
end Kn


namespace Kn
open PySem PySem.Spec PyProof.Rows L2 LamX
abbrev nRt : List Str := ["_law_page_here", "_law_sign", "_law_label", "_law_kept", "_law_due"]
theorem scRt : FnScope nRt ["_law_page_here", "_law_sign", "_law_label"] (defScope (topS 37)) := ⟨rfl, rfl, rfl, by decide +kernel, rfl, by decide +kernel, by decide +kernel⟩
abbrev qRt : Str := ("_law_is_right" : Str) ++ ".<locals>." ++ "<lambda>"
abbrev TT1 (T0 : Addr) : List (Addr × Str) := [(T0, qRt)]
def Out.ok : Out → Prop
  | .yes g => g.ok
  | .no w => Fit 8 w
theorem sh_out {o : Out} (h : o.ok) : Sh 6 300000 (dOut o) := by
  cases o with
  | yes g =>
    refine (sh_tup (k := 4) (B := 100000) (n := 2) ?_ (by simp)).mono (by decide) (by decide)
    intro d hd
    simp only [List.mem_cons, List.not_mem_nil, or_false] at hd
    rcases hd with rfl | rfl
    · exact (sh_str (fit_of "told" (n := 10) (by decide))).mono (by decide) (by decide)
    · exact sh_pg h
  | no w =>
    refine (sh_tup (k := 0) (B := 102) (n := 4) ?_ (by simp)).mono (by decide) (by decide)
    intro d hd
    simp only [List.mem_cons, List.not_mem_nil, or_false] at hd
    rcases hd with rfl | rfl | rfl | rfl
    · exact sh_str (fit_of "no" (n := 10) (by decide))
    · exact sh_str (fit_of "use" (n := 10) (by decide))
    · exact (sh_str h).mono (by decide) (by decide)
    · exact (sh_int (i := -1) (by decide)).mono (by decide) (by decide)
theorem ext_own {H H2 : Hp} {L : Addr} {o' : HO} (x : ExtN H H2) (nl : ∀ b o, H b = some o → (∀ ps, o ≠ .tbl ps) → b ≠ L) : ExtN H (upd H2 L o') := fun b o h n => by
  rw [upd_ne (nl b o h n)]
  exact x b o h n
structure Fine (d : PyData) : Prop where
  g : goodD d = true
  dp : d.depth ≤ 15
  n : nodesD d ≤ 1000
theorem Fine.nice {d : PyData} (h : Fine d) : Nice d := ⟨h.g, Nat.le_trans h.dp (by decide), h.n⟩
theorem sh_fine {d : PyData} (h : Fine d) : Sh 15 80000 d := by
  obtain ⟨a, b, c⟩ := good_shown d h.g
  exact ⟨a, b, h.dp, by have := h.n; omega⟩
theorem sh_three {g : Pg} {a b : PyData} (h : g.ok) (ha : Fine a) (hb : Fine b) : Sh 20 16777216 (.list [dPg g, a, b]) := by
  refine (sh_list (k := 15) (B := 100000) (n := 3) ?_ (by simp)).mono (by decide) (by decide)
  intro d hd
  simp only [List.mem_cons, List.not_mem_nil, or_false] at hd
  rcases hd with rfl | rfl | rfl
  · exact (sh_pg h).mono (by decide) (by decide)
  · exact (sh_fine ha).mono (by decide) (by decide)
  · exact (sh_fine hb).mono (by decide) (by decide)
theorem outRen_cases {g : Pg} (gd : Gd g) (dk dx : PyData) : (∃ w, outRen g dk dx = .no w ∧ (w = "kind" ∨ w = "name")) ∨ ∃ o m, dk = .str o ∧ dx = .str m ∧ o ∈ nms g ∧ Nm m ∧ (m = o ∨ m ∉ nms g) ∧ outRen g dk dx = .yes (ren o m g) := by
  cases hb : byD g dk with
  | none => exact .inl ⟨"kind", out_kind hb, .inl rfl⟩
  | some e =>
    obtain ⟨he, rfl⟩ := byD_is hb
    have en : e.name ∈ nms g := List.mem_map.mpr ⟨e, he, rfl⟩
    cases dx with
    | str m =>
      cases z : fits g e.name m
      · exact .inl ⟨"name", out_name hb (fun m' em => by cases em; exact z), .inr rfl⟩
      · obtain ⟨a, b⟩ := fits_is z
        exact .inr ⟨e.name, m, rfl, rfl, en, a, b, out_yes hb z⟩
    | _ => exact .inl ⟨"name", out_name hb (fun m' em => by cases em), .inr rfl⟩
theorem outRen_ok {g : Pg} (gd : Gd g) (dk dx : PyData) : (outRen g dk dx).ok := by
  rcases outRen_cases gd dk dx with ⟨w, e, z⟩ | ⟨o, m, rfl, rfl, ho, nm, fr, e⟩
  · rw [e]
    rcases z with rfl | rfl
    · exact fit_of "kind" (by decide)
    · exact fit_of "name" (by decide)
  · rw [e]
    exact (ren_back gd nm ho fr).1.ok
theorem byD_of {g : Pg} {m : Str} (h : m ∈ nms g) : ∃ e, byD g (.str m) = some e ∧ e.name = m := by
  have z := known_str g m
  rw [decide_eq_true h] at z
  obtain ⟨e, he⟩ := Option.isSome_iff_exists.mp z
  obtain ⟨_, b⟩ := byD_is he
  exact ⟨e, he, (PyData.str.inj b).symm⟩
theorem ren_yes {g : Pg} {o m : Str} (ho : o ∈ nms g) (nm : Nm m) (fr : m = o ∨ m ∉ nms g) : outRen g (.str o) (.str m) = .yes (ren o m g) := by
  obtain ⟨e, he, rfl⟩ := byD_of ho
  exact out_yes he (fits_of nm fr)
theorem nice_nm {s : Str} (h : Nm s) : Nice (.str s) := ⟨h.asc, Nat.zero_le _, by show 1 + s.length ≤ 1000; have := h.1; omega⟩
def spRt (K : PySem.W.Frag) (T : List (Addr × Str)) : Sp := fun vs H Q _ => ∃ (v k x : V) (g : Pg) (dk dx : PyData), vs = [v, k, x] ∧ PgAt K H v g ∧ Gd g ∧ Dp K H k dk ∧ Fine dk ∧ Dp K H x dx ∧ Fine dx ∧ Tabs T H ∧
  ∀ H', ExtN H H' → Tabs T H' → Q (.bl true) H'
section
variable {P : Program} {w : World} {K : PySem.W.Frag} {mg : Str → Option Value} {base : Heap}
theorem res_yes {D : Addr} {H : Hp} {Q : VK} {E : XK} {o : Out} {g' : Pg} (h : o = .yes g') (k : ∀ (v : V) (H' : Hp), Same H H' → PgAt K H' v g' → Q v H') : Res K D H Q E o := by
  subst h
  exact k
theorem res_said {T : List (Addr × Str)} {D : Addr} {H H1 : Hp} {Q : VK} {o : Out} (e1 : ExtN H H1) (t1 : Tabs T H1) (next : ∀ (r : V) (H2 : Hp), ExtN H H2 → Tabs T H2 → OutAt K H2 r o → Q r H2) :
    Res K D H1 (fun v H' => 2 ≤ sizeLine ∧ ∀ p, H' p = none → Q (.ref p) (upd H' p (.tup [.str "told", v]))) (Refused K D Q) o := by
  cases o with
  | yes g' =>
    refine fun v H' s hv => ⟨by decide, fun p np => ?_⟩
    have s2 := s.trans (same_new (o := .tup [.str "told", v]) np)
    exact next _ _ (e1.trans (ext_same s2)) (t1.ext s2) ⟨p, v, rfl, upd_same, hv.same (same_new np)⟩
  | no x =>
    refine fun H0 s0 dd nd => ⟨rfl, dd, .str x, .int (-1), rfl, upd_same, fun p H2 s2 np ep => ?_⟩
    have s3 := (s0.trans (same_new (o := .xd [("at", .int (-1)), ("word", .str x)]) nd)).trans s2
    exact next _ _ (e1.trans (ext_same s3)) (t1.ext s3) ⟨p, rfl, ep⟩
theorem told3 {T : List (Addr × Str)} {D : Addr} {v k x : V} {g : Pg} {dk dx : PyData} {H : Hp} {σ : L2.St} {Q : VK} (h0 : σ[0]? = some (some v)) (h1 : σ[1]? = some (some k)) (h2 : σ[2]? = some (some x)) (pg : PgAt K H v g) (gd : Gd g)
    (hk : Dp K H k dk) (hs : SeqAt.shaped dk = true) (hx : Dp K H x dx) (hsx : Nice dx) (tb : Tabs T H) (next : ∀ (r : V) (H2 : Hp), ExtN H H2 → Tabs T H2 → OutAt K H2 r (outRen g dk dx) → Q r H2) :
    tLam T (TTsaid K D) (fun E => tCall (spRen K D) [] E (tCons (tVar 0) (tCons (tVar 1) (tCons (tVar 2) tNil)))) σ H Q :=
  ⟨tb, fun H1 e1 t1 => ⟨v, h0, k, h1, x, h2, v, k, x, g, dk, dx, rfl, pg.ts (ext_ts e1), gd, dpE e1 hk, hs, dpE e1 hx, hsx, res_said e1 t1 next⟩⟩
theorem ok_rt {g c T0 D CL gI gR gS gA gX : Addr} {fd fI fR fS fA fX : FuncData} (F : FunC K "_law_is_right" (topS 37) g fd c) (TB : TabB base mg c T0)
    (EM : ErrM K mg D gI fI) (mL : mg "LetterError" = some (.ref CL)) (ex : PySem.W.exmOne K (.ref D) (.ref CL) = some true)
    (R : Def K mg "_law_refusal" 29 ["_law_error"] gR fR) (GR : Handed P w K mg base 1 gR fR ["_law_error"] (spRef K D))
    (S : Def K mg "_law_said" 30 ["_law_ask"] gS fS)
    (A1 : Def K mg "renamed" 19 ["web", "kind", "name"] gA fA) (O1 : FnOk P w K mg base (L2.CX P w) 4 gA fA ["web", "kind", "name"] (spRen K D))
    (B1 : Def K mg "_law_called_due" 36 ["_law_page_here", "_law_sign", "_law_label"] gX fX) (D1 : FnOk P w K mg base CX0 3 gX fX ["_law_page_here", "_law_sign", "_law_label"] (spDue K)) (mp : mg "repr" = none) :
    Vow P w K mg base 7 g fd ["_law_page_here", "_law_sign", "_law_label"] (spRt K (TT1 T0)) := by
  refine Vow.bodyC F scRt (fun vs H Q E h => ?_) (fun A fr s H vs Q E hq hr h => ?_)
  · obtain ⟨v, k, x, g, dk, dx, rfl, _⟩ := h
    rfl
  · obtain ⟨v, k, x, pg, dk, dx, rfl, hP, gd, hk, fk, hx, fx, tb, q⟩ := h
    obtain ⟨oc, od, kV, doc, pm, an, cdv, ct, osl, rfl, look, cdOk⟩ := S.F.ex
    have hr2 : Room 2 _ := hr.mono (by decide)
    have hr3 : Room 3 _ := hr.mono (by decide)
    have hr4 : Room 4 _ := hr.mono (by decide)
    have lam := fun {params : Arguments} {body : Expr} {scope : Scope} {t : XK → TE} {p lpos pos : Pos} (L : LamS (defScope (topS 37)) scope) (hdef) (hbind) (hbody) =>
      pe_lamcall (X := (cxOf CX0 P w K mg base nRt "_law_is_right" (defScope (topS 37)) g (.ref c) A fr s H E).nox) (T := TT1 T0) (TT := TTsaid K D) (k := 4) (a := "_law_ask") (Ng := nSaid) (params := params) (body := body) (scope := scope) (t := t) (p := p) (lpos := lpos) (pos := pos)
        (by rfl) S.m S.F.kp look cdOk S.b scSaid rfl (.inl rfl) (said_gives R.F R.b R.m GR mL ex hr2) TB rfl (List.mem_cons_self ..) (fun p hp _ => congrArg Prod.snd (List.mem_singleton.mp hp)) hr L hdef hbind hbody
    refine ⟨_, pss_cons (ps_par (i := 3) (j := 4) (by rfl) scRt.nd rfl rfl (by decide) rfl rfl (pa_cons (pe_callB (call_show hq hr.units) (by rfl) mp boot_repr (pa_cons (pe_lst (pa_cons (pv 0) (pa_cons (pv 1) (pa_cons (pv 2) pa_nil)))) pa_nil)) (pa_cons (pe_call D1 hr3 (by rfl) B1.m B1.F.kp B1.b .nil pass0 (pa_cons (pv 0) (pa_cons (pv 1) (pa_cons (pv 2) pa_nil)))) pa_nil)) (by rfl))
      (pss_cons (ps_if (PW.pt (pw_or (pt_cmpR op_ne (pe_callB (call_show hq hr.units) (by rfl) mp boot_repr (pa_cons (lam (lamS_by (by decide +kernel)) rfl (fun _ _ _ _ _ => rfl) (fun A' outer s' H' E' f' c' hr' => pe_call O1 hr' (by rfl) A1.m A1.F.kp A1.b .nil (passes_call (takes_of rfl rfl rfl rfl) (fun _ _ _ _ h => h)) (pa_cons (pv 0) (pa_cons (pv 1) (pa_cons (pv 2) pa_nil))))) pa_nil)) (pe_callB (call_show hq hr.units) (by rfl) mp boot_repr (pa_cons (pv 4) pa_nil)) (nomark _))
          (pw_or1 (pt_cmpR op_ne (pe_callB (call_show hq hr.units) (by rfl) mp boot_repr (pa_cons (pe_lst (pa_cons (pv 0) (pa_cons (pv 1) (pa_cons (pv 2) pa_nil)))) pa_nil)) (pv 3) (nomark _))))) (pss_one (ps_ret pe_bl)) pss_nil)
      (pss_one (ps_ret (pe_or (pe_cmpR op_eq (pe_ix ix_tup (pv 4) pe_int (fun _ _ => rfl)) pe_str (nomark _))
        (pe_one (pe_cmpR op_eq (pe_callB (call_show hq hr.units) (by rfl) mp boot_repr (pa_cons (pe_call O1 hr4 (by rfl) A1.m A1.F.kp A1.b .nil passF (pa_cons (pe_ix ix_tup (pv 4) pe_int (fun _ _ => rfl)) (pa_cons (pv 2) (pa_cons (pv 1) pa_nil)))) pa_nil)) (pe_callB (call_show hq hr.units) (by rfl) mp boot_repr (pa_cons (pv 0) pa_nil)) (nomark _))))))), ?_⟩
    have sh3 := sh_three gd.ok fk fx
    have sho := sh_out (outRen_ok gd dk dx)
    have sp := sh_pg gd.ok
    refine ⟨v, rfl, k, rfl, x, rfl, (show 3 ≤ sizeLine by decide), fun L nL => ?_⟩
    have sL := same_new (o := .lst [v, k, x]) nL
    refine ⟨L, .list [dPg pg, dk, dx], rfl, .lst (.inl (.inl upd_same)) (.cons (hP.same sL).dp (.cons (dKeep sL hk) (.cons (dKeep sL hx) .nil))), sh3.ok, sh3.nd, sh3.dp, Nat.le_trans sh3.ln size16, ?_⟩
    refine ⟨v, rfl, k, rfl, x, rfl, v, k, x, pg, dk, dx, rfl, hP.same sL, gd, dKeep sL hk, dKeep sL hx, fx.nice, fun b1 J1 s1 d1 => ⟨_, _, rfl, ?_⟩⟩
    have sJ := sL.trans s1
    have hPJ := hP.same sJ
    have hkJ := dKeep sJ hk
    have hxJ := dKeep sJ hx
    have tJ := tb.ext sJ
    refine told3 (K := K) rfl rfl rfl hPJ gd hkJ fk.nice.shaped hxJ fx.nice tJ fun r H2 e2 t2 n2 => ?_
    have m2 := d1.ts (ext_ts e2)
    have hP2 := hPJ.ts (ext_ts e2)
    have hk2 := dpE e2 hkJ
    have hx2 := dpE e2 hxJ
    have x2 : ExtN H H2 := (ext_same sJ).trans e2
    obtain ⟨pr, er⟩ : ∃ pr, r = .ref pr := by
      cases z : outRen pg dk dx with
      | yes g' => rw [z] at n2; obtain ⟨t, v', rfl, _⟩ := n2; exact ⟨t, rfl⟩
      | no w => rw [z] at n2; obtain ⟨t, rfl, _⟩ := n2; exact ⟨t, rfl⟩
    obtain ⟨pb, eb⟩ : ∃ pb, b1 = .ref pb := by
      cases z : outRen pg dk dx with
      | yes g' => rw [z] at m2; obtain ⟨t, v', rfl, _⟩ := m2; exact ⟨t, rfl⟩
      | no w => rw [z] at m2; obtain ⟨t, rfl, _⟩ := m2; exact ⟨t, rfl⟩
    subst er
    subst eb
    refine ⟨pr, dOut (outRen pg dk dx), rfl, n2.dp, sho.ok, sho.nd, Nat.le_trans sho.dp (by decide), Nat.le_trans sho.ln (by decide), ?_⟩
    refine ⟨_, rfl, pb, dOut (outRen pg dk dx), rfl, m2.dp, sho.ok, sho.nd, Nat.le_trans sho.dp (by decide), Nat.le_trans sho.ln (by decide), rfl, _, rfl, iteNS rfl ?_⟩
    refine ⟨v, rfl, k, rfl, x, rfl, (show 3 ≤ sizeLine by decide), fun M nM => ?_⟩
    have sM := same_new (o := .lst [v, k, x]) nM
    refine ⟨M, .list [dPg pg, dk, dx], rfl, .lst (.inl (.inl upd_same)) (.cons (hP2.same sM).dp (.cons (dKeep sM hk2) (.cons (dKeep sM hx2) .nil))), sh3.ok, sh3.nd, sh3.dp, Nat.le_trans sh3.ln size16, ?_⟩
    refine ⟨_, rfl, rfl, _, rfl, iteNS rfl ?_⟩
    have xA := x2.trans (ext_same sM)
    have yA := t2.ext sM
    have mA := m2.ts (ts_same sM)
    have hPA := hP2.same sM
    have hkA := dKeep sM hk2
    have hxA := dKeep sM hx2
    dsimp only [tNext]
    generalize upd H2 M (.lst [v, k, x]) = G at xA yA mA hPA hkA hxA ⊢
    rcases outRen_cases gd dk dx with ⟨wd, z, _⟩ | ⟨o, m, rfl, rfl, ho, nm, free, z⟩
    · rw [z] at mA
      obtain ⟨t, et, ht⟩ := mA
      cases et
      refine ⟨.ref pb, rfl, pb, _, 0, .str "no", rfl, rfl, .inl (.inl ht), atI_nat (j := 0) rfl, rfl, _, rfl, ?_⟩
      rw [decide_eq_true (show V.str "no" = V.str "no" from rfl)]
      exact iteT (q G xA yA)
    · rw [z] at mA
      obtain ⟨t, v', et, ht, hv'⟩ := mA
      cases et
      cases hkA
      cases hxA
      obtain ⟨gd', mm, fr', back⟩ := ren_back gd nm ho free
      refine ⟨.ref pb, rfl, pb, _, 0, .str "told", rfl, rfl, .inl (.inl ht), atI_nat (j := 0) rfl, rfl, _, rfl, ?_⟩
      rw [decide_eq_false (show ¬ V.str "told" = V.str "no" from by decide)]
      have no := gd.nm o ho
      refine iteF ⟨.ref pb, rfl, pb, _, 1, v', rfl, rfl, .inl (.inl ht), atI_nat (j := 1) rfl, .str m, rfl, .str o, rfl, v', .str m, .str o, ren o m pg, .str m, .str o, rfl, hv', gd', .str m, nm.shaped, .str o, nice_nm no, res_yes (by rw [ren_yes mm no fr', back]) fun v2 J s2 hv2 => ?_⟩
      obtain ⟨w2, _, _, rfl, _⟩ := id hv2
      obtain ⟨pp, _, _, rfl, _⟩ := id hPA
      refine ⟨w2, dPg pg, rfl, hv2.dp, sp.ok, sp.nd, Nat.le_trans sp.dp (by decide), Nat.le_trans sp.ln (by decide), _, rfl, pp, dPg pg, rfl, (hPA.same s2).dp, sp.ok, sp.nd, Nat.le_trans sp.dp (by decide), Nat.le_trans sp.ln (by decide), rfl, ?_⟩
      rw [decide_eq_true rfl]
      exact q J (xA.trans (ext_same s2)) (yA.ext s2)
end
end Kn


namespace Kn
open PySem PySem.Spec PyProof.Rows L2 LamX
abbrev nTd : List Str := ["_law_page_here", "_law_one", "_law_two", "_law_late_here", "_law_table", "_law_entries", "_law_label", "_law_cost", "_law_holds", "_law_row", "_law_turned", "_law_mate"]
theorem scTd : FnScope nTd ["_law_page_here", "_law_one", "_law_two"] (defScope (topS 38)) := ⟨rfl, rfl, rfl, by decide +kernel, rfl, by decide +kernel, by decide +kernel⟩
abbrev swK (a b : Str) : List (Key × V) := mergeK [] [(.inr a, .str b), (.inr b, .str a)]
theorem swK_get {a b : Str} (ne : a ≠ b) (s : Str) : (valV (swK a b) (.inr s)).getD (.str s) = .str (swp a b s) := by
  have e : swK a b = putK (putK [] (.inr a) (.str b)) (.inr b) (.str a) := rfl
  rw [e, valV_put, valV_put]
  unfold swp
  by_cases x : s = a
  · have n : ¬ (Sum.inr s : Key) = .inr b := fun z => ne (x ▸ Sum.inr.inj z)
    rw [if_neg n, if_pos (congrArg Sum.inr x), if_pos x]
    rfl
  · rw [if_neg x]
    by_cases y : s = b
    · rw [if_pos (congrArg Sum.inr y), if_pos y]
      rfl
    · rw [if_neg (fun z => y (Sum.inr.inj z)), if_neg (fun z => x (Sum.inr.inj z)), if_neg y]
      rfl
theorem swp_inj {a b : Str} {g : Pg} (gd : Gd g) (ha : a ∈ nms g) (hb : b ∈ nms g) : Inj (swp a b) g := by
  refine ⟨fun s hs t ht e => ?_, fun s hs => ?_⟩
  · unfold swp at e
    by_cases x : s = a
    · rw [if_pos x] at e
      by_cases y : t = a
      · rw [x, y]
      · rw [if_neg y] at e
        by_cases z : t = b
        · rw [if_pos z] at e
          rw [x, z, e]
        · rw [if_neg z] at e
          exact absurd e.symm z
    · rw [if_neg x] at e
      by_cases x2 : s = b
      · rw [if_pos x2] at e
        by_cases y : t = a
        · rw [if_pos y] at e
          rw [x2, y, e]
        · rw [if_neg y] at e
          by_cases z : t = b
          · rw [x2, z]
          · rw [if_neg z] at e
            exact absurd e.symm y
      · rw [if_neg x2] at e
        by_cases y : t = a
        · rw [if_pos y] at e
          exact absurd e x2
        · rw [if_neg y] at e
          by_cases z : t = b
          · rw [if_pos z] at e
            exact absurd e x
          · rw [if_neg z] at e
            exact e
  · unfold swp
    split
    · exact gd.nm b hb
    · split
      · exact gd.nm a ha
      · exact gd.nm s hs
def nob : Str := "nobody"
theorem nob_nm : Nm nob := by
  have z : (decide (nob.length ≤ 8) && decide (1 ≤ nob.length) && (nob.cps.toList.all fun c => decide (97 ≤ c ∧ c ≤ 122))) = true := by decide +kernel
  obtain ⟨z, z3⟩ := Bool.and_eq_true_iff.mp z
  obtain ⟨z1, z2⟩ := Bool.and_eq_true_iff.mp z
  exact ⟨of_decide_eq_true z1, of_decide_eq_true z2, z3⟩
def spTd (K : PySem.W.Frag) : Sp := fun vs H Q _ => ∃ (v : V) (g : Pg) (a b : Str), vs = [v, .str a, .str b] ∧ PgAt K H v g ∧ Gd g ∧ a ∈ nms g ∧ b ∈ nms g ∧ a ≠ b ∧ nob ∉ nms g ∧ ∀ H', Same H H' → Q (.bl true) H'
section
variable {P : Program} {w : World} {K : PySem.W.Frag} {mg : Str → Option Value} {base : Heap}
theorem ok_td {f gA D : Addr} {fd fA : FuncData} (F : Fun K "_law_is_turned" "_law_is_turned" (topS 38) f fd) (A1 : Def K mg "renamed" 19 ["web", "kind", "name"] gA fA) (O1 : FnOk P w K mg base (L2.CX P w) 4 gA fA ["web", "kind", "name"] (spRen K D))
    (mo : mg "sorted" = none) (mt : mg "tuple" = none) (mp : mg "repr" = none) : Vow P w K mg base 5 f fd ["_law_page_here", "_law_one", "_law_two"] (spTd K) := by
  refine Vow.body F scTd (fun vs H Q E h => ?_) (fun cdv A outer s H vs Q E hq hr h => ?_)
  · obtain ⟨v, g, a, b, rfl, _⟩ := h
    rfl
  · obtain ⟨v, g, a, b, rfl, hP, gd, ha, hb, ab, fn, q⟩ := h
    have hr4 : Room 4 _ := hr.mono (by decide)
    have hu := hu_of hr4
    refine ⟨_, (pss_cons (ps_set (i := 3) scTd.nd rfl (.inl rfl) (pe_call O1 hr4 (by rfl) A1.m A1.F.kp A1.b .nil passF (pa_cons (pe_call O1 hr4 (by rfl) A1.m A1.F.kp A1.b .nil passF (pa_cons (pe_call O1 hr4 (by rfl) A1.m A1.F.kp A1.b .nil passF (pa_cons (pv 0) (pa_cons (pv 1) (pa_cons pe_str pa_nil)))) (pa_cons (pv 2) (pa_cons (pv 1) pa_nil)))) (pa_cons pe_str (pa_cons (pv 2) pa_nil)))))
      (pss_cons (ps_asg (pe_tup (pa_cons (pe_disp (pps_cons (pv 1) (pv 2) (pps_cons (pv 2) (pv 1) pps_nil)) (by rfl) (by rfl) (fun z => by cases z) (by decide)) (pa_cons (pe_lst pa_nil) pa_nil))) (pg_tup (by rfl) (pgs_cons (pg_name (i := 4) scTd.nd rfl (.inr rfl)) (pgs_cons (pg_name (i := 5) scTd.nd rfl (.inl rfl)) pgs_nil))))
      (pss_cons (ps_for PassesOwn.never rfl (pi_tup (pe_ix ix_tup (pv 0) pe_int (fun _ _ => rfl))) (pg_tup (by rfl) (pgs_cons (pg_name (i := 6) scTd.nd rfl (.inl rfl)) (pgs_cons (pg_name (i := 7) scTd.nd rfl (.inl rfl)) (pgs_cons (pg_name (i := 8) scTd.nd rfl (.inl rfl)) (pgs_cons (pg_name (i := 9) scTd.nd rfl (.inl rfl)) pgs_nil))))) (pss_cons (ps_set (i := 10) scTd.nd rfl (.inl rfl) (pe_callTy call_tuple_of (by rfl) mt (by decide +kernel) (pa_cons (pe_callB cr_sortedS (by rfl) mo (by decide +kernel) (pa_cons (pe_lc (own := [("_law_mate", 11)]) (g := gName 11) (by rfl) scTd.nd (pi_tup (pv 9)) (blkOk_by (own := [("_law_mate", 11)]) (N := nTd) (sc := defScope (topS 38)) (by decide +kernel)) (fun _ _ _ _ _ => pg_name (i := 11) scTd.nd rfl (Or.inl rfl)) (fun _ _ _ _ _ => pts_nil) (fun _ _ _ _ _ => (pe_dget2 hu (pv 4) (pv 11) (pv 11) ⟨rfl, rfl, rfl, rfl⟩))) pa_nil)) pa_nil)))
      (pss_one (ps_expr (pe_bm PySem.F.plainAttrs_list PySem.F.slot_list_append PySem.F.type_list_append mt_append (pv 5) (pa_cons (pe_tup (pa_cons (pe_dget2 hu (pv 4) (pv 6) (pv 6) ⟨rfl, rfl, rfl, rfl⟩) (pa_cons (pv 7) (pa_cons (pv 8) (pa_cons (pv 10) pa_nil))))) pa_nil))))))
      (pss_one (ps_ret (pe_cmpR op_eq (pe_callB (call_show hq hr.units) (by rfl) mp boot_repr (pa_cons (pv 3) pa_nil)) (pe_callB (call_show hq hr.units) (by rfl) mp boot_repr (pa_cons (pe_tup (pa_cons (pe_callTy call_tuple_of (by rfl) mt (by decide +kernel) (pa_cons (pe_callB (cr_sortedD hr.units) (by rfl) mo (by decide +kernel) (pa_cons (pv 5) pa_nil)) pa_nil)) (pa_cons (pe_dget2 hu (pv 4) (pe_ix ix_tup (pv 0) pe_int (fun _ _ => rfl)) (pe_ix ix_tup (pv 0) pe_int (fun _ _ => rfl)) ⟨rfl, rfl, rfl, rfl⟩) pa_nil))) pa_nil)) (nomark _))))))), ?_⟩
    obtain ⟨g1, b1, a1, g2, n2, b2, eT⟩ := turned gd ha hb ab nob_nm fn
    have na := gd.nm a ha
    have nb := gd.nm b hb
    refine ⟨v, rfl, _, rfl, v, .str a, .str nob, g, .str a, .str nob, rfl, hP, gd, .str a, na.shaped, .str nob, nice_nm nob_nm, res_yes (ren_yes ha nob_nm (.inr fn)) fun v1 H1 s1 hv1 => ?_⟩
    refine ⟨_, rfl, _, rfl, v1, .str b, .str a, _, .str b, .str a, rfl, hv1, g1, .str b, nb.shaped, .str a, nice_nm na, res_yes (ren_yes b1 na (.inr a1)) fun v2 H2 s2 hv2 => ?_⟩
    refine ⟨_, rfl, v2, .str nob, .str b, _, .str nob, .str b, rfl, hv2, g2, .str nob, nob_nm.shaped, .str b, nice_nm nb, res_yes (ren_yes n2 nb (.inr b2)) fun v3 H3 s3 hv3 => ?_⟩
    rw [eT] at hv3
    have s13 := (s1.trans s2).trans s3
    have hP3 := hP.same s13
    clear hv1 hv2 hP eT b1 a1 b2 n2
    dsimp only [gName]
    have sij := swp_inj gd ha hb
    obtain ⟨p, qq, ws, rfl, hp, hqq, hE⟩ := hP3
    have lw := hE.len
    have l5 := gd.l5
    -- the table, the list
    refine fun T nT => ⟨_, rfl, _, rfl, _, rfl, _, rfl, upd_same, [(.inr a, .str b), (.inr b, .str a)], rfl, (show 2 ≤ 15 by decide), (show 0 ≤ sizeLine by decide), fun D nD => ⟨(show 2 ≤ sizeLine by decide), fun u nu => ?_⟩⟩
    have nTD : T ≠ D := ne_of_none upd_same nD
    have nD3 : H3 D = none := by
      rw [upd_ne nTD.symm, upd_ne nTD.symm] at nD
      exact nD
    have sb : Same H3 (upd (upd (upd (upd H3 T (.dK [])) T (.dK (swK a b))) D (.lst [])) u (.tup [.ref T, .ref D])) := by
      intro x o hx
      have xT : x ≠ T := ne_of_none hx nT
      have xD : x ≠ D := ne_of_none hx nD3
      have e : (upd (upd (upd H3 T (.dK [])) T (.dK (swK a b))) D (.lst [])) x = some o := by rw [upd_ne xD, upd_ne xT, upd_ne xT]; exact hx
      rw [upd_ne (ne_of_none e nu)]
      exact e
    have eT : (upd (upd (upd (upd H3 T (.dK [])) T (.dK (swK a b))) D (.lst [])) u (.tup [.ref T, .ref D])) T = some (.dK (swK a b)) := same_new nu _ _ (by rw [upd_ne nTD, upd_same])
    have eD : (upd (upd (upd (upd H3 T (.dK [])) T (.dK (swK a b))) D (.lst [])) u (.tup [.ref T, .ref D])) D = some (.lst []) := same_new nu _ _ upd_same
    have eu : SqT K (upd (upd (upd (upd H3 T (.dK [])) T (.dK (swK a b))) D (.lst [])) u (.tup [.ref T, .ref D])) u [.ref T, .ref D] := .inl (.inl upd_same)
    refine ⟨u, _, rfl, eu, rfl, _, _, rfl, _, _, rfl, rfl, ?_⟩
    dsimp only [gName]
    show tSeq _ _ _ _ (upd (upd (upd (upd H3 T (.dK [])) T (.dK (swK a b))) D (.lst [])) u (.tup [.ref T, .ref D]))
    generalize upd (upd (upd (upd H3 T (.dK [])) T (.dK (swK a b))) D (.lst [])) u (.tup [.ref T, .ref D]) = G0 at sb eT eD ⊢
    clear eu nu nD nT
    have get : ∀ (G : Hp) (s : Str), G T = some (.dK (swK a b)) → IsD G T ∧ DGet G T (.str s) (valV (swK a b) (.inr s)) := fun G s h => ⟨.inl ⟨_, .inl h⟩, DGet.k (k := .inr s) h⟩
    refine ⟨.ref p, rfl, p, _, 0, .ref qq, rfl, rfl, tupS sb hp, atI_nat (j := 0) rfl, qq, rfl, ⟨ws, tupS sb hqq⟩, ?_⟩
    refine for_tup (K := K) (a := qq) (xs := ws) (fun i σ G => ∃ y6 y7 y8 y9 y10 us, σ = [some (.ref p), some (.str a), some (.str b), some v3, some (.ref T), some (.ref D), y6, y7, y8, y9, y10, none] ∧ Same H3 G ∧ G T = some (.dK (swK a b)) ∧ G D = some (.lst us) ∧ us.length = i ∧ EntsAt K G us ((g.es.take i).map (mapE (swp a b))))
      ⟨none, none, none, none, none, [], rfl, sb, eT, eD, rfl, .nil⟩ (fun i σ G _ ⟨_, _, _, _, _, _, _, sG, _⟩ => tupS sG hqq) ?_ ?_
    · rintro i y σ G hy ⟨y6, y7, y8, y9, y10, us, rfl, sG, eT, eD, lu, hU⟩
      obtain ⟨e2, he2, hv2⟩ := hE.get hy
      have m2 := List.mem_of_getElem? he2
      have hi : i < ws.length := (List.getElem?_eq_some_iff.mp hy).1
      obtain ⟨p2, r2, rfl, hp2, hr2'⟩ := hv2.same sG
      have rl := gd.rlen m2
      refine ⟨p2, _, rfl, hp2, rfl, _, _, rfl, _, _, rfl, _, _, rfl, _, _, rfl, rfl, ?_⟩
      dsimp only [gName]
      refine seq_asg ?_
      dsimp only [tCB, tCons]
      refine lc_mapT (K := K) (a := r2) (xs := e2.row.map V.str) ((e2.row.map (swp a b)).map V.str) (by simp) (by simp; omega) hr2' (fun R k => ⟨_, rfl, k⟩) (fun v => rfl) ?_ ?_
      · intro j z x' G' R hz hx' sm k
        obtain ⟨s0, ha0, rfl⟩ := map_get hz
        obtain ⟨c0, hb1, rfl⟩ := map_get hx'
        obtain ⟨s1', ha', rfl⟩ := map_get hb1
        obtain rfl : s0 = s1' := Option.some.inj (ha0.symm.trans ha')
        obtain ⟨i1, i2⟩ := get G' s0 (sm _ _ eT)
        refine ⟨_, rfl, T, rfl, i1, _, rfl, _, rfl, _, i2, ?_⟩
        rw [swK_get ab]
        exact k G' (Same.refl G')
      · intro D2 G2 nD2 sm2 hD2
        refine ⟨D2, e2.row.map (swp a b), rfl, .inl (.inl hD2), by rw [List.length_map]; omega, fun ys p3 pm so np => ?_⟩
        have e3 := sortS_of pm (sorted_leS so)
        subst e3
        have sp := same_new (o := .lst ((sortS (e2.row.map (swp a b))).map V.str)) np
        refine ⟨p3, _, rfl, .inl ⟨.inl (.inl upd_same), fun t nt => ?_⟩⟩
        have st := same_new (o := .tup ((sortS (e2.row.map (swp a b))).map V.str)) nt
        have s3' := sm2.trans (sp.trans st)
        have eD3 := s3' _ _ eD
        have eT3 := s3' _ _ eT
        have hT : SqT K (upd (upd G2 p3 (.lst ((sortS (e2.row.map (swp a b))).map V.str))) t (.tup ((sortS (e2.row.map (swp a b))).map V.str))) t ((sortS (e2.row.map (swp a b))).map V.str) := .inl (.inl upd_same)
        have hU3 := hU.same s3'
        have sG3 := sG.trans s3'
        dsimp only [gName]
        generalize upd (upd G2 p3 (.lst ((sortS (e2.row.map (swp a b))).map V.str))) t (.tup ((sortS (e2.row.map (swp a b))).map V.str)) = G3 at eD3 eT3 hT hU3 sG3 ⊢
        obtain ⟨i1, i2⟩ := get G3 e2.name eT3
        refine ⟨.ref D, rfl, .inl ⟨rfl, _, .inl (.inl eD3)⟩, _, rfl, T, rfl, i1, _, rfl, _, rfl, _, i2, ?_⟩
        rw [swK_get ab]
        refine ⟨_, rfl, _, rfl, .ref t, rfl, (show 4 ≤ sizeLine by decide), fun w' nw => ?_⟩
        have su := same_new (o := .tup [.str (swp a b e2.name), .int e2.fee, .bl e2.has, .ref t]) nw
        have eD4 := su _ _ eD3
        refine ⟨D, us, _, rfl, rfl, eD4, small' (by omega), ?_⟩
        have t1 : TS (upd G3 w' (.tup [.str (swp a b e2.name), .int e2.fee, .bl e2.has, .ref t])) (upd (upd G3 w' (.tup [.str (swp a b e2.name), .int e2.fee, .bl e2.has, .ref t])) D (.lst (us ++ [.ref w']))) := ts_lst eD4
        have e4 : (g.es.take (i + 1)).map (mapE (swp a b)) = (g.es.take i).map (mapE (swp a b)) ++ [mapE (swp a b) e2] := by
          rw [List.take_add_one, he2, List.map_append]
          rfl
        refine ⟨_, _, _, _, _, us ++ [.ref w'], rfl, putS (sG3.trans su) nD3, by rw [upd_ne nTD]; exact su _ _ eT3, upd_same, by rw [List.length_append, lu]; rfl, ?_⟩
        rw [e4]
        exact (EntsAt.ts t1 (hU3.same su)).append (.cons ⟨w', t, rfl, tupT t1 (.inl (.inl upd_same)), tupT t1 (tupS su hT)⟩ .nil)
    · rintro σ G ⟨y6, y7, y8, y9, y10, us, rfl, sG, eT, eD, lu, hU⟩
      rw [List.take_of_length_le (by omega)] at hU
      have shp := sh_pg (gd.map sij).ok
      obtain ⟨w3, q3, vs3, rfl, hw3, hq3, hE3⟩ := hv3
      have hv3' : PgAt K G (.ref w3) (mapPg (swp a b) g) := ⟨w3, q3, vs3, rfl, tupS sG hw3, tupS sG hq3, hE3.same sG⟩
      refine ⟨.ref w3, rfl, w3, dPg (mapPg (swp a b) g), rfl, hv3'.dp, shp.ok, shp.nd, Nat.le_trans shp.dp (by decide), Nat.le_trans shp.ln (by decide), ?_⟩
      obtain ⟨ps, rfl, eps, hps⟩ := ent_cells hU
      have ndp : (ps.map (·.2.name)).Nodup := by
        have z := nd_map gd sij
        rw [eps, List.map_map] at z
        exact z
      have dpp : ∀ c ∈ ps.map vdE, Dp K G c.1 c.2 ∧ c.2.depth ≤ 8 := fun c hc => by
        obtain ⟨y, hy, rfl⟩ := List.mem_map.mp hc
        exact ⟨(hps y hy).dp, depth_ent _⟩
      have al : PySem.W.AllAlike ((ps.map vdE).map (·.2)) := by
        have z := alike_cells ps
        rw [List.map_map] at z ⊢
        exact z
      have sb2 : PySem.W.Sortable ((ps.map vdE).map (·.2)) := by
        have z := sortable_cells ps
        rw [List.map_map] at z ⊢
        exact z
      refine ⟨.ref D, rfl, D, ps.map vdE, rfl, by rw [List.map_map]; exact .inl (.inl eD), dpp, al, sb2, fun l qs nl pm pw => ?_⟩
      obtain ⟨rs, rfl, p2, so⟩ := vd_sorted ndp pm pw
      have sl := same_new (o := .lst ((rs.map vdE).map (·.1))) nl
      refine ⟨l, _, rfl, .inl ⟨.inl (.inl upd_same), fun t nt => ?_⟩⟩
      have st := same_new (o := .tup ((rs.map vdE).map (·.1))) nt
      have sl2 := sl.trans st
      have sAll := sG.trans sl2
      have hTt : SqT K (upd (upd G l (.lst ((rs.map vdE).map (·.1)))) t (.tup ((rs.map vdE).map (·.1)))) t (rs.map fun p => V.ref p.1) := by
        have z : (rs.map vdE).map (·.1) = rs.map fun p => V.ref p.1 := by rw [List.map_map]; rfl
        rw [← z]
        exact .inl (.inl upd_same)
      have hEt : EntsAt K (upd (upd G l (.lst ((rs.map vdE).map (·.1)))) t (.tup ((rs.map vdE).map (·.1)))) (rs.map fun p => V.ref p.1) (sortE (g.es.map (mapE (swp a b)))) := by
        rw [eps, ← so]
        exact cells_ent fun y hy => (hps y (p2.mem_iff.mp hy)).same sl2
      have eT3 := sl2 _ _ eT
      generalize upd (upd G l (.lst ((rs.map vdE).map (·.1)))) t (.tup ((rs.map vdE).map (·.1))) = G3 at sAll hTt hEt eT3 ⊢
      obtain ⟨i1, i2⟩ := get G3 g.asks eT3
      refine ⟨_, rfl, T, rfl, i1, .ref p, rfl, p, _, 1, .str g.asks, rfl, rfl, tupS sAll hp, atI_nat (j := 1) rfl, .ref p, rfl, p, _, 1, .str g.asks, rfl, rfl, tupS sAll hp, atI_nat (j := 1) rfl, _, i2, ?_⟩
      rw [swK_get ab]
      refine ⟨(show 2 ≤ sizeLine by decide), fun w' nw => ?_⟩
      have su := same_new (o := .tup [.ref t, .str (swp a b g.asks)]) nw
      have hF : PgAt K (upd G3 w' (.tup [.ref t, .str (swp a b g.asks)])) (.ref w') (mapPg (swp a b) g) := ⟨w', t, _, rfl, .inl (.inl upd_same), tupS su hTt, hEt.same su⟩
      refine ⟨w', dPg (mapPg (swp a b) g), rfl, hF.dp, shp.ok, shp.nd, Nat.le_trans shp.dp (by decide), Nat.le_trans shp.ln (by decide), rfl, ?_⟩
      rw [decide_eq_true rfl]
      exact q _ (s13.trans (sAll.trans su))
end
end Kn


namespace Kn
open PySem PySem.Spec PyProof.Rows L2
/-! ### f(y1 = e1, y2 = e2, y3 = e3), the other way about; nothing is raised -/
section
variable {X : Cx} {k : Nat} {f : Addr} {fd : FuncData} {y1 y2 y3 x : Str} {sp : Sp} {p pos k1 k2 k3 : Pos} {e1 e2 e3 : Expr} {t1 t2 t3 : TE}
def tKw3 (sp : Sp) (t1 t2 t3 : TE) : TE := fun σ H Q => t1 σ H fun u G => t2 σ G fun v G' => t3 σ G' fun z G'' => sp [z, v, u] G'' Q E0
theorem pe_kw3 (F : FnOk X.prog X.w X.K X.mg X.base (L2.CX X.prog X.w) k f fd [y3, y2, y1] sp) (hr : Room k X.A) (hg : Gl X x) (hm : X.mg x = some (.ref f)) (hk : PySem.W.keepIn X.K (.ref f) = true)
    (hb : ∀ (s : Shared) (u v z : Value), BindsTo s fd ⟨[], [(y1, u), (y2, v), (y3, z)]⟩ [(y3, z), (y2, v), (y1, u)]) (he1 : PE X e1 t1) (he2 : PE X e2 t2) (he3 : PE X e3 t3) (hdb : (x == ("__debug__" : Str)) = false := by decide)
    (h1 : (backToKw pos (keywordEach [⟨some y1, e1, k1⟩, ⟨some y2, e2, k2⟩, ⟨some y3, e3, k3⟩] X.env)).all (·.1.isSome) = true := by rfl) (h2 : (backToKw pos (keywordEach [⟨some y1, e1, k1⟩, ⟨some y2, e2, k2⟩, ⟨some y3, e3, k3⟩] X.env)).filterMap (·.1) = [y1, y2, y3] := by rfl)
    (h3 : ((backTo pos (starEach [] X.env)).any (·.1) || (backToKw pos (keywordEach [⟨some y1, e1, k1⟩, ⟨some y2, e2, k2⟩, ⟨some y3, e3, k3⟩] X.env)).any (·.1.isNone)) = false := by rfl) :
    PE X (.Call (.Name x p) [] [⟨some y1, e1, k1⟩, ⟨some y2, e2, k2⟩, ⟨some y3, e3, k3⟩] pos) (tKw3 sp t1 t2 t3) := by
  have hkw : PK X [⟨some y1, e1, k1⟩, ⟨some y2, e2, k2⟩, ⟨some y3, e3, k3⟩] (tCons t1 (tCons t2 (tCons t3 tNil))) := pk_cons he1 (pk_cons he2 (pk_cons he3 pk_nil))
  refine ⟨fun pins s σ H Q I told => wpAny_Call_Name_kw (ld_glob I hg hm ?_ hdb)⟩
  refine PySem.W.callWith_KW0 (h₀ := X.base) I.ok.mod.kin hk h1 (thn (hkw.run pos pins s σ H (fun vs G => ∃ u v z, vs = [u, v, z] ∧ sp [z, v, u] G Q E0) I ?_) ?_) h3
  · have told : t1 σ H fun u G => t2 σ G fun v G' => t3 σ G' fun z G'' => sp [z, v, u] G'' Q E0 := told
    have mono : (tCons t1 (tCons t2 (tCons t3 tNil))) σ H (fun vs G => ∃ u v z, vs = [u, v, z] ∧ sp [z, v, u] G Q E0) = (t1 σ H fun u G => t2 σ G fun v G' => t3 σ G' fun z G'' => ∃ u' v' z', [u, v, z] = [u', v', z'] ∧ sp [z', v', u'] G'' Q E0) := rfl
    rw [mono]
    have e : ∀ u v z G, (∃ u' v' z', [u, v, z] = [u', v', z'] ∧ sp [z', v', u'] G Q E0) = sp [z, v, u] G Q E0 := fun u v z G =>
      propext ⟨fun ⟨u', v', z', h, q⟩ => by cases h; exact q, fun q => ⟨u, v, z, rfl, q⟩⟩
    simp only [e]
    exact told
  · rintro us s1 ⟨vs, H1, I1, rv, u0, v0, z0, rfl, q⟩
    refine ⟨I1.kIn, ?_⟩
    rw [h2]
    cases rv with
    | cons r1 rr =>
      cases rr with
      | cons r2 rr =>
        cases rr with
        | cons r3 rr =>
          cases rr
          refine wpAny_call (codeAny_mono (F.run X.A X.stack s1 H1 ⟨[], [(y1, _), (y2, _), (y3, _)]⟩ [_, _, _] [z0, v0, u0] Q E0 hr I1.env0 (hb s1 _ _ _) (.cons r3 (.cons r2 (.cons r1 .nil))) q) ?_)
          intro r s2 out
          cases r with
          | error e => exact passF pins σ H1 s1 e s2 I1 out
          | ok fl =>
            cases fl with
            | ret u => exact I1.after out
            | next => exact False.elim out
            | brk => exact False.elim out
            | cont => exact False.elim out
end
end Kn


namespace Kn
open PySem PySem.Spec PyProof.Rows L2 LamX
theorem names_nm : ∀ y ∈ names, Nm y := by
  have all : (names.all fun y => decide (y.length ≤ 8) && decide (1 ≤ y.length) && (y.cps.toList.all fun c => decide (97 ≤ c ∧ c ≤ 122))) = true := by decide +kernel
  intro y hy
  obtain ⟨z, z3⟩ := Bool.and_eq_true_iff.mp (List.all_eq_true.mp all y hy)
  obtain ⟨z1, z2⟩ := Bool.and_eq_true_iff.mp z
  exact ⟨of_decide_eq_true z1, of_decide_eq_true z2, z3⟩
theorem nob_names : nob ∉ names := by decide +kernel
theorem gd_of {g : Pg} (nice : ∀ e ∈ g.es, e.nice) (asc : Asc (g.es.map (·.name))) (own : ∀ e ∈ g.es, (e.has = true → e.name ≠ g.asks) ∧ e.row.Sublist (g.es.map (·.name))) (asks : g.asks ∈ g.es.map (·.name)) (g5 : g.es.length ≤ 5) : Gd g :=
  ⟨asc, fun e he => ⟨(nice e he).2.2.2, fun s hs => (own e he).2.subset hs⟩, asks, fun s hs => by
    obtain ⟨e, he, rfl⟩ := List.mem_map.mp hs
    exact names_nm _ (nice e he).1, fun e he => feesAll_ok _ (nice e he).2.1, g5⟩
theorem fine_nm {s : Str} (h : Nm s) : Fine (.str s) := ⟨h.asc, Nat.zero_le _, by show 1 + s.length ≤ 1000; have := h.1; omega⟩
theorem fine_more : ∀ y ∈ names, Fine (.str (y ++ "q")) := by
  have all : (names.all fun y => goodD (.str (y ++ "q")) && decide (nodesD (.str (y ++ "q")) ≤ 1000)) = true := by decide +kernel
  intro y hy
  obtain ⟨a, b⟩ := Bool.and_eq_true_iff.mp (List.all_eq_true.mp all y hy)
  exact ⟨a, Nat.zero_le _, of_decide_eq_true b⟩
theorem fine_all {l : List PyData} (h : (l.all fun d => goodD d && decide (d.depth ≤ 15) && decide (nodesD d ≤ 1000)) = true) : ∀ d ∈ l, Fine d := by
  intro d hd
  obtain ⟨z, z3⟩ := Bool.and_eq_true_iff.mp (List.all_eq_true.mp h d hd)
  obtain ⟨z1, z2⟩ := Bool.and_eq_true_iff.mp z
  exact ⟨z1, of_decide_eq_true z2, of_decide_eq_true z3⟩
theorem fine_odds : ∀ d ∈ odds, Fine d := fine_all (by decide +kernel)
theorem fine_strange : ∀ d ∈ strangeD, Fine d := fine_all (by decide +kernel)
theorem fine_new : ∀ d ∈ [PyData.str "aa", .str "zzzzzzzz", .str "y", .str "kinds"], Fine d := fine_all (by decide +kernel)
theorem dv_len {K : PySem.W.Frag} {H : Hp} : ∀ {xs : List V} {ds : List PyData}, DpAll K H xs ds → xs.length = ds.length
  | _, _, .nil => rfl
  | _, _, .cons a b => congrArg Nat.succ (dv_len b)
theorem fine_in {K : PySem.W.Frag} {H : Hp} {xs : List V} {ds : List PyData} (h : DpAll K H xs ds) (f : ∀ d ∈ ds, Fine d) : ∀ x ∈ xs, ∃ d, Dp K H x d ∧ Fine d := fun x hx => by
  obtain ⟨d, hd, q⟩ := dp_in h x hx
  exact ⟨d, q, f d hd⟩
def FV (K : PySem.W.Frag) (H : Hp) (x : V) : Prop := ∃ d, Dp K H x d ∧ Fine d
theorem FV.keep {K : PySem.W.Frag} {f a : Addr} {ns : List Int} {H H' : Hp} {c : Nat} (d : Fd f a ns H c) (k : Keep f H H') {x : V} (h : FV K H x) : FV K H' x := by
  obtain ⟨y, p, q⟩ := h
  exact ⟨y, dFd d k p, q⟩
theorem FV.same {K : PySem.W.Frag} {H H' : Hp} (s : Same H H') {x : V} (h : FV K H x) : FV K H' x := by
  obtain ⟨y, p, q⟩ := h
  exact ⟨y, dKeep s p, q⟩
theorem FV.ext {K : PySem.W.Frag} {H H' : Hp} (s : ExtN H H') {x : V} (h : FV K H x) : FV K H' x := by
  obtain ⟨y, p, q⟩ := h
  exact ⟨y, dpE s p, q⟩
def gLone : Pg := ⟨[⟨"a", 1, false, ["a", "c"]⟩, ⟨"c", 2, true, ["a"]⟩], "a"⟩
def gDue : Pg := ⟨[⟨"c", 2, true, ["d"]⟩, ⟨"d", 1, false, ["c", "d"]⟩], "d"⟩
theorem acd : ("a" : Str) ∈ names ∧ ("c" : Str) ∈ names ∧ ("d" : Str) ∈ names := by decide +kernel
theorem asc2 : Asc [("a" : Str), "c"] ∧ Asc [("c" : Str), "d"] := by
  have l1 : Lt "a" "c" := by
    show ltCps _ _ = true
    decide +kernel
  have l2 : Lt "c" "d" := by
    show ltCps _ _ = true
    decide +kernel
  refine ⟨List.pairwise_cons.mpr ⟨fun y hy => ?_, List.pairwise_singleton _ _⟩, List.pairwise_cons.mpr ⟨fun y hy => ?_, List.pairwise_singleton _ _⟩⟩
  · rw [List.mem_singleton.mp hy]
    exact l1
  · rw [List.mem_singleton.mp hy]
    exact l2
theorem gd_lone : Gd gLone := by
  obtain ⟨na, nc, _⟩ := acd
  refine ⟨asc2.1, fun e he => ?_, List.mem_cons_self .., fun s hs => ?_, fun e he => ?_, (show 2 ≤ 5 by decide)⟩
  · simp only [gLone, List.mem_cons, List.not_mem_nil, or_false] at he
    rcases he with rfl | rfl
    · exact ⟨asc2.1, fun s hs => hs⟩
    · exact ⟨List.pairwise_singleton _ _, fun s hs => by rw [List.mem_singleton.mp hs]; exact List.mem_cons_self ..⟩
  · have hs : s ∈ [("a" : Str), "c"] := hs
    simp only [List.mem_cons, List.not_mem_nil, or_false] at hs
    rcases hs with rfl | rfl
    · exact names_nm _ na
    · exact names_nm _ nc
  · simp only [gLone, List.mem_cons, List.not_mem_nil, or_false] at he
    rcases he with rfl | rfl
    · show (1 : Int).natAbs < 10 ^ 60
      decide
    · show (2 : Int).natAbs < 10 ^ 60
      decide
theorem d_free : ("d" : Str) ∉ nms gLone := by
  show ("d" : Str) ∉ [("a" : Str), "c"]
  decide +kernel
theorem lone_ren : ren "a" "d" gLone = gDue := by
  have la : late "a" "d" "a" = "d" := if_pos rfl
  have lc : late "a" "d" "c" = "c" := if_neg (by decide +kernel)
  have r1 : sortS ["d", "c"] = [("c" : Str), "d"] := (sortS_of (List.Perm.swap _ _ _) (asc_le asc2.2)).symm
  have r2 : sortS ["d"] = [("d" : Str)] := (sortS_of (List.Perm.refl _) (List.pairwise_singleton _ _)).symm
  have m1 : mapE (late "a" "d") ⟨"a", 1, false, ["a", "c"]⟩ = ⟨"d", 1, false, ["c", "d"]⟩ := by
    show (⟨late "a" "d" "a", 1, false, sortS [late "a" "d" "a", late "a" "d" "c"]⟩ : Ent) = _
    rw [la, lc, r1]
  have m2 : mapE (late "a" "d") ⟨"c", 2, true, ["a"]⟩ = ⟨"c", 2, true, ["d"]⟩ := by
    show (⟨late "a" "d" "c", 2, true, sortS [late "a" "d" "a"]⟩ : Ent) = _
    rw [la, lc, r2]
  show (⟨sortE [mapE (late "a" "d") ⟨"a", 1, false, ["a", "c"]⟩, mapE (late "a" "d") ⟨"c", 2, true, ["a"]⟩], late "a" "d" "a"⟩ : Pg) = gDue
  rw [m1, m2, la]
  have so : [⟨"c", 2, true, ["d"]⟩, ⟨"d", 1, false, ["c", "d"]⟩] = sortE [⟨"d", 1, false, ["c", "d"]⟩, ⟨"c", 2, true, ["d"]⟩] := sortE_of (List.Perm.swap _ _ _) (by
      show [("d" : Str), "c"].Nodup
      decide +kernel) (by
      have z := asc_le asc2.2
      refine List.pairwise_cons.mpr ⟨fun y hy => ?_, List.pairwise_singleton _ _⟩
      rw [List.mem_singleton.mp hy]
      exact (List.pairwise_cons.mp z).1 _ (List.mem_singleton.mpr rfl))
  rw [← so]
  rfl
section
variable {K : PySem.W.Frag}
theorem page2 {r1 r2 : List Str} {n1 n2 c : Str} {f1 f2 : Int} {b1 b2 : Bool} {ta tb : TA} {σ : L2.St} {J : Hp} {Q : VK} (A : ∀ (J : Hp) (R : List V → Hp → Prop), R (r1.map V.str) J → ta σ J R) (B : ∀ (J : Hp) (R : List V → Hp → Prop), R (r2.map V.str) J → tb σ J R) (w1 : r1.length ≤ 8) (w2 : r2.length ≤ 8)
    (k : ∀ (v : V) (J' : Hp), Same J J' → PgAt K J' v ⟨[⟨n1, f1, b1, r1⟩, ⟨n2, f2, b2, r2⟩], c⟩ → Q v J') :
    tTup (tCons (tTup (tCons (tTup (tCons (tC (.str n1)) (tCons (tC (.int f1)) (tCons (tC (.bl b1)) (tCons (tTup ta) tNil))))) (tCons (tTup (tCons (tC (.str n2)) (tCons (tC (.int f2)) (tCons (tC (.bl b2)) (tCons (tTup tb) tNil))))) tNil))) (tCons (tC (.str c)) tNil)) σ J Q := by
  refine A _ _ ⟨by rw [List.length_map]; exact Nat.le_trans w1 (by decide), fun p1 m1 => ⟨(show 4 ≤ sizeLine by decide), fun p2 m2 => B _ _ ⟨by rw [List.length_map]; exact Nat.le_trans w2 (by decide), fun p3 m3 => ⟨(show 4 ≤ sizeLine by decide), fun p4 m4 => ⟨(show 2 ≤ sizeLine by decide), fun p7 m7 => ⟨(show 2 ≤ sizeLine by decide), fun p8 m8 => ?_⟩⟩⟩⟩⟩⟩
  have z1 := same_new (o := .tup (r1.map V.str)) m1
  have z2 := same_new (o := .tup [.str n1, .int f1, .bl b1, .ref p1]) m2
  have z3 := same_new (o := .tup (r2.map V.str)) m3
  have z4 := same_new (o := .tup [.str n2, .int f2, .bl b2, .ref p3]) m4
  have z7 := same_new (o := .tup [.ref p2, .ref p4]) m7
  have z8 := same_new (o := .tup [.ref p7, .str c]) m8
  have t47 := (z4.trans z7).trans z8
  have t37 := z3.trans t47
  have t27 := z2.trans t37
  refine k (.ref p8) _ (z1.trans t27) ⟨p8, p7, [.ref p2, .ref p4], rfl, .inl (.inl upd_same), tupS z8 (.inl (.inl upd_same)), .cons ⟨p2, p1, rfl, ?_, ?_⟩ (.cons ⟨p4, p3, rfl, ?_, ?_⟩ .nil)⟩
  · exact tupS t37 (.inl (.inl upd_same))
  · exact tupS t27 (.inl (.inl upd_same))
  · exact tupS (z7.trans z8) (.inl (.inl upd_same))
  · exact tupS t47 (.inl (.inl upd_same))
end
end Kn


namespace Kn
open PySem PySem.Spec PyProof.Rows L2
/-- data that lies in what is new since H0 alone -/
def Nw (K : PySem.W.Frag) (H0 H : Hp) (v : V) (d : PyData) : Prop := ∀ G : Hp, (∀ b o, H0 b = none → H b = some o → G b = some o) → Dp K G v d
def NwA (K : PySem.W.Frag) (H0 H : Hp) (vs : List V) (ds : List PyData) : Prop := ∀ G : Hp, (∀ b o, H0 b = none → H b = some o → G b = some o) → DpAll K G vs ds
section
variable {K : PySem.W.Frag} {H0 H H1 H2 : Hp} {v : V} {d : PyData} {vs ws : List V} {ds es : List PyData}
theorem Nw.dp (h : Nw K H0 H v d) : Dp K H v d := h H fun _ _ _ e => e
theorem NwA.dp (h : NwA K H0 H vs ds) : DpAll K H vs ds := h H fun _ _ _ e => e
theorem Nw.to (h : Nw K H0 H v d) (k : ∀ b o, H0 b = none → H b = some o → H1 b = some o) : Nw K H0 H1 v d := fun G g => h G fun b o n e => g b o n (k b o n e)
theorem NwA.to (h : NwA K H0 H vs ds) (k : ∀ b o, H0 b = none → H b = some o → H1 b = some o) : NwA K H0 H1 vs ds := fun G g => h G fun b o n e => g b o n (k b o n e)
theorem Nw.from (h : Nw K H1 H v d) (k : ∀ b, H1 b = none → H0 b = none) : Nw K H0 H v d := fun G g => h G fun b o n e => g b o (k b n) e
theorem NwA.from (h : NwA K H1 H vs ds) (k : ∀ b, H1 b = none → H0 b = none) : NwA K H0 H vs ds := fun G g => h G fun b o n e => g b o (k b n) e
theorem NwA.cons (a : Nw K H0 H v d) (b : NwA K H0 H vs ds) : NwA K H0 H (v :: vs) (d :: ds) := fun G g => .cons (a G g) (b G g)
theorem NwA.app (a : NwA K H0 H vs ds) (b : NwA K H0 H ws es) : NwA K H0 H (vs ++ ws) (ds ++ es) := fun G g => dsApp (a G g) (b G g)
end
theorem nw_in {K : PySem.W.Frag} {H0 H : Hp} {xs : List V} {ds : List PyData} (h : NwA K H0 H xs ds) : ∀ x ∈ xs, ∃ d ∈ ds, Nw K H0 H x d := fun x hx => by
  obtain ⟨i, hi, e⟩ := List.getElem_of_mem hx
  have e : xs[i]? = some x := e ▸ List.getElem?_eq_getElem hi
  obtain ⟨d, hd, _⟩ := dsAt h.dp i x e
  refine ⟨d, List.mem_of_getElem? hd, fun G g => ?_⟩
  obtain ⟨d', hd', p⟩ := dsAt (h G g) i x e
  rw [hd] at hd'
  cases hd'
  exact p
def NE (K : PySem.W.Frag) (t : TE) (d : PyData) : Prop := ∀ (σ : L2.St) (H : Hp) (Q : VK), (∀ (v : V) (H' : Hp), Same H H' → Nw K H H' v d → Q v H') → t σ H Q
def NA (K : PySem.W.Frag) (t : TA) (ds : List PyData) : Prop := ∀ (σ : L2.St) (H : Hp) (Q : List V → Hp → Prop), (∀ (vs : List V) (H' : Hp), Same H H' → NwA K H H' vs ds → Q vs H') → t σ H Q
def NL (K : PySem.W.Frag) (t : TE) (ds : List PyData) : Prop := ∀ (σ : L2.St) (H : Hp) (Q : VK), (∀ (l : Addr) (vs : List V) (H' : Hp), Same H H' → H l = none → H' l = some (.lst vs) → NwA K H H' vs ds → Q (.ref l) H') → t σ H Q
section
variable {K : PySem.W.Frag} {t u : TE} {ta : TA} {d : PyData} {ds es : List PyData}
theorem ne_non : NE K (tC .non) .none := fun _ H _ q => q _ H (Same.refl H) fun _ _ => .non
theorem ne_bl {b : Bool} : NE K (tC (.bl b)) (.bool b) := fun _ H _ q => q _ H (Same.refl H) fun _ _ => .bl b
theorem ne_int {i : Int} : NE K (tC (.int i)) (.int i) := fun _ H _ q => q _ H (Same.refl H) fun _ _ => .int i
theorem ne_str {x : Str} : NE K (tC (.str x)) (.str x) := fun _ H _ q => q _ H (Same.refl H) fun _ _ => .str x
theorem ne_neg {i : Int} : NE K (tUn (rU fun i => .int (-i)) (tC (.int i))) (.int (-i)) := fun _ H _ q => ⟨i, rfl, q _ H (Same.refl H) fun _ _ => .int _⟩
theorem ne_big {i j : Int} (h : CPow i j := by exact ⟨by decide, by decide, by decide⟩) : NE K (tOp (rI CPow fun i j => .int (i ^ j.toNat)) (tC (.int i)) (tC (.int j))) (.int (i ^ j.toNat)) := fun _ H _ q => ⟨i, j, rfl, rfl, h, q _ H (Same.refl H) fun _ _ => .int _⟩
theorem na_nil : NA K tNil [] := fun _ H _ q => q _ H (Same.refl H) fun _ _ => .nil
theorem na_cons (h : NE K t d) (k : NA K ta ds) : NA K (tCons t ta) (d :: ds) := fun σ H Q q => h σ H _ fun v H1 s1 d1 => k σ H1 _ fun vs H2 s2 d2 => q _ H2 (s1.trans s2) (.cons (d1.to fun b o _ e => s2 b o e) (d2.from fun b n => s1.free n))
theorem nlen {H0 H : Hp} {vs : List V} (h : NwA K H0 H vs ds) : vs.length = ds.length := dsLen h.dp
theorem ne_tup (h : NA K ta ds) (few : ds.length ≤ 1000) : NE K (tTup ta) (.tuple ds) := fun σ H Q q => h σ H _ fun vs H1 s1 d1 => by
  refine ⟨by rw [nlen d1]; exact Nat.le_trans few (by decide), fun p np => ?_⟩
  have s2 := same_new (o := .tup vs) np
  have d2 := d1.to fun b o _ e => s2 b o e
  exact q _ _ (s1.trans s2) fun G g => .tup (.inl (.inl (g p _ (s1.free np) upd_same))) (d2 G g)
theorem nl_lst (h : NA K ta ds) (few : ds.length ≤ 1000) : NL K (tLst ta) ds := fun σ H Q q => h σ H _ fun vs H1 s1 d1 => by
  refine ⟨by rw [nlen d1]; exact Nat.le_trans few (by decide), fun p np => ?_⟩
  have s2 := same_new (o := .lst vs) np
  exact q p vs _ (s1.trans s2) (s1.free np) upd_same (d1.to fun b o _ e => s2 b o e)
theorem ne_lst (h : NA K ta ds) (few : ds.length ≤ 1000) : NE K (tLst ta) (.list ds) := fun σ H Q q => nl_lst h few σ H Q fun l vs H' s n e d => q _ H' s fun G g => .lst (.inl (.inl (g l _ n e))) (d G g)
theorem nl_grow {l : Addr} {vs : List V} {H H0 : Hp} {Q : VK} {σ : L2.St} (e : H0 l = some (.lst vs)) (s0 : Same H H0) (d1 : NwA K H H0 vs ds) (ht : ∀ R : VK, R (.ref l) H0 → t σ H0 R) (k : NL K u es) (few : ds.length + es.length ≤ 1000)
    (q : ∀ (p : Addr) (ws : List V) (H' : Hp), Same H H' → H' p = some (.lst ws) → NwA K H H' ws (ds ++ es) → Q (.ref p) H') : tOp rCat t u σ H0 Q := ht _ (k σ H0 _ fun r ws H2 s2 n2 e2 d2 => by
  refine ⟨l, r, vs, ws, rfl, rfl, s2 _ _ e, e2, by rw [nlen d1, nlen d2]; exact Nat.le_trans few (by decide), fun p np => ?_⟩
  have s3 := same_new (o := .lst (vs ++ ws)) np
  have s23 := s2.trans s3
  exact q p _ _ (s0.trans s23) upd_same ((d1.to fun b o _ e => s23 b o e).app ((d2.from fun b n => s0.free n).to fun b o _ e => s3 b o e)))
end
end Kn


namespace Kn
open PySem PySem.Spec PyProof.Rows L2
def spStrangeN (K : PySem.W.Frag) : Sp := fun vs H Q _ => ∃ (f a : Addr) (ns : List Int) (c : Nat), vs = [.ref f] ∧ Fd f a ns H c ∧ c < 90000 ∧
  ∀ (v : V) (d : PyData) (H' : Hp), d ∈ strangeD → Nw K H H' v d → Keep f H H' → Fd f a ns H' (c + 1) → Q v H'
section
variable {P : Program} {w : World} {K : PySem.W.Frag} {mg : Str → Option Value} {base : Heap}
theorem ok_strangeN {g gA : Addr} {fd fdA : FuncData} (F : Fun K "_law_strange" "_law_strange" (topS 27) g fd) (FA : Fun K "_law_any" "_law_any" (topS 24) gA fdA) (bA : Binds K fdA ["_law_feed", "_law_some"] []) (mA : mg "_law_any" = some (.ref gA))
    (GA : FnOk P w K mg base CX0 2 gA fdA ["_law_feed", "_law_some"] (spAny K)) : FnOk P w K mg base CX0 3 g fd ["_law_feed"] (spStrangeN K) := by
  refine F.ok scStr (fun vs H Q E h => ?_) (fun cdv A outer s H vs Q E hr h => ?_)
  · obtain ⟨f, a, ns, c, rfl, _⟩ := h
    rfl
  · obtain ⟨f, a, ns, c, rfl, fd0, hc, q⟩ := h
    refine ⟨_, pss_cons (ps_set (i := 1) scStr.nd rfl (.inl rfl) (pe_lst (pa_cons pe_non (pa_cons pe_bl (pa_cons pe_bl (pa_cons pe_int (pa_cons pe_int (pa_cons pe_int (pa_cons (pe_un un_neg pe_int) (pa_cons (pe_op op_pow pe_int pe_int) (pa_cons pe_str (pa_cons pe_str (pa_cons pe_str (pa_cons pe_str (pa_cons pe_str (pa_cons pe_str (pa_cons pe_str (pa_cons pe_str (pa_cons pe_str pa_nil)))))))))))))))))))
      (pss_cons (ps_set (i := 1) scStr.nd rfl (.inl rfl) (pe_op op_cat (pv 1) (pe_lst (pa_cons pe_str (pa_cons pe_str (pa_cons pe_str (pa_cons (pe_tup pa_nil) (pa_cons (pe_lst pa_nil) (pa_cons (pe_tup (pa_cons pe_str pa_nil)) (pa_cons (pe_tup (pa_cons pe_str (pa_cons pe_str pa_nil))) (pa_cons (pe_tup (pa_cons pe_str (pa_cons pe_str pa_nil))) (pa_cons (pe_tup (pa_cons pe_str (pa_cons pe_str pa_nil))) (pa_cons (pe_lst (pa_cons pe_str pa_nil)) (pa_cons (pe_tup (pa_cons pe_str (pa_cons pe_int pa_nil))) pa_nil))))))))))))))
      (pss_cons (ps_set (i := 1) scStr.nd rfl (.inl rfl) (pe_op op_cat (pv 1) (pe_lst (pa_cons (pe_tup (pa_cons pe_str (pa_cons pe_bl pa_nil))) (pa_cons (pe_tup (pa_cons pe_str (pa_cons (pe_un un_neg pe_int) pa_nil))) (pa_cons (pe_tup (pa_cons pe_str (pa_cons pe_int (pa_cons pe_bl (pa_cons (pe_tup pa_nil) pa_nil))))) (pa_cons (pe_tup (pa_cons pe_str (pa_cons pe_int (pa_cons pe_bl (pa_cons (pe_tup (pa_cons pe_str pa_nil)) pa_nil))))) (pa_cons (pe_tup (pa_cons pe_str (pa_cons pe_int (pa_cons pe_bl (pa_cons (pe_tup pa_nil) pa_nil))))) pa_nil))))))))
      (pss_cons (ps_set (i := 1) scStr.nd rfl (.inl rfl) (pe_op op_cat (pv 1) (pe_lst (pa_cons (pe_tup (pa_cons pe_str (pa_cons pe_int (pa_cons pe_int (pa_cons (pe_tup pa_nil) pa_nil))))) (pa_cons (pe_tup (pa_cons (pe_tup (pa_cons pe_str (pa_cons pe_int pa_nil))) (pa_cons (pe_tup (pa_cons pe_str (pa_cons pe_int pa_nil))) pa_nil))) (pa_cons (pe_tup (pa_cons pe_str (pa_cons pe_str pa_nil))) (pa_cons (pe_tup (pa_cons pe_str (pa_cons pe_str pa_nil))) (pa_cons (pe_tup (pa_cons (pe_tup (pa_cons pe_str (pa_cons pe_int (pa_cons pe_bl (pa_cons (pe_tup pa_nil) pa_nil))))) pa_nil)) pa_nil))))))))
      (pss_one (ps_ret (pe_call GA hr (by rfl) mA FA.kp bA .nil pass0 (pa_cons (pv 0) (pa_cons (pv 1) pa_nil)))))))), ?_⟩
    refine seq_asg ((nl_lst (K := K) (na_cons ne_non (na_cons ne_bl (na_cons ne_bl (na_cons ne_int (na_cons ne_int (na_cons ne_int (na_cons ne_neg (na_cons ne_big (na_cons ne_str (na_cons ne_str (na_cons ne_str (na_cons ne_str (na_cons ne_str (na_cons ne_str (na_cons ne_str (na_cons ne_str (na_cons ne_str na_nil))))))))))))))))) (show 17 ≤ 1000 by decide)) _ _ _ fun l0 vs0 H0 s0 n0 e0 d0 => ?_)
    dsimp only [gName]
    refine seq_asg (nl_grow e0 s0 d0 (fun R r => ⟨_, rfl, r⟩) (nl_lst (K := K) (na_cons ne_str (na_cons ne_str (na_cons ne_str (na_cons (ne_tup na_nil (show 0 ≤ 1000 by decide)) (na_cons (ne_lst na_nil (show 0 ≤ 1000 by decide)) (na_cons (ne_tup (na_cons ne_str na_nil) (show 1 ≤ 1000 by decide)) (na_cons (ne_tup (na_cons ne_str (na_cons ne_str na_nil)) (show 2 ≤ 1000 by decide)) (na_cons (ne_tup (na_cons ne_str (na_cons ne_str na_nil)) (show 2 ≤ 1000 by decide)) (na_cons (ne_tup (na_cons ne_str (na_cons ne_str na_nil)) (show 2 ≤ 1000 by decide)) (na_cons (ne_lst (na_cons ne_str na_nil) (show 1 ≤ 1000 by decide)) (na_cons (ne_tup (na_cons ne_str (na_cons ne_int na_nil)) (show 2 ≤ 1000 by decide)) na_nil))))))))))) (show 11 ≤ 1000 by decide)) (show 28 ≤ 1000 by decide) fun l1 vs1 H1 s1 e1 d1 => ?_)
    dsimp only [gName]
    refine seq_asg (nl_grow e1 s1 d1 (fun R r => ⟨_, rfl, r⟩) (nl_lst (K := K) (na_cons (ne_tup (na_cons ne_str (na_cons ne_bl na_nil)) (show 2 ≤ 1000 by decide)) (na_cons (ne_tup (na_cons ne_str (na_cons ne_neg na_nil)) (show 2 ≤ 1000 by decide)) (na_cons (ne_tup (na_cons ne_str (na_cons ne_int (na_cons ne_bl (na_cons (ne_tup na_nil (show 0 ≤ 1000 by decide)) na_nil)))) (show 4 ≤ 1000 by decide)) (na_cons (ne_tup (na_cons ne_str (na_cons ne_int (na_cons ne_bl (na_cons (ne_tup (na_cons ne_str na_nil) (show 1 ≤ 1000 by decide)) na_nil)))) (show 4 ≤ 1000 by decide)) (na_cons (ne_tup (na_cons ne_str (na_cons ne_int (na_cons ne_bl (na_cons (ne_tup na_nil (show 0 ≤ 1000 by decide)) na_nil)))) (show 4 ≤ 1000 by decide)) na_nil))))) (show 5 ≤ 1000 by decide)) (show 33 ≤ 1000 by decide) fun l2 vs2 H2 s2 e2 d2 => ?_)
    dsimp only [gName]
    refine seq_asg (nl_grow e2 s2 d2 (fun R r => ⟨_, rfl, r⟩) (nl_lst (K := K) (na_cons (ne_tup (na_cons ne_str (na_cons ne_int (na_cons ne_int (na_cons (ne_tup na_nil (show 0 ≤ 1000 by decide)) na_nil)))) (show 4 ≤ 1000 by decide)) (na_cons (ne_tup (na_cons (ne_tup (na_cons ne_str (na_cons ne_int na_nil)) (show 2 ≤ 1000 by decide)) (na_cons (ne_tup (na_cons ne_str (na_cons ne_int na_nil)) (show 2 ≤ 1000 by decide)) na_nil)) (show 2 ≤ 1000 by decide)) (na_cons (ne_tup (na_cons ne_str (na_cons ne_str na_nil)) (show 2 ≤ 1000 by decide)) (na_cons (ne_tup (na_cons ne_str (na_cons ne_str na_nil)) (show 2 ≤ 1000 by decide)) (na_cons (ne_tup (na_cons (ne_tup (na_cons ne_str (na_cons ne_int (na_cons ne_bl (na_cons (ne_tup na_nil (show 0 ≤ 1000 by decide)) na_nil)))) (show 4 ≤ 1000 by decide)) na_nil) (show 1 ≤ 1000 by decide)) na_nil))))) (show 5 ≤ 1000 by decide)) (show 38 ≤ 1000 by decide) fun l3 vs3 H3 s3 e3 d3 => ?_)
    dsimp only [gName]
    have sA := s3
    have fdA := fd0.same sA
    have len : vs3.length = 38 := nlen d3
    refine ⟨.ref f, rfl, .ref l3, rfl, f, a, l3, ns, c, vs3, rfl, fdA, by omega, .inl (.inl e3), by omega, by omega, fun x G hx k fdG => ?_⟩
    obtain ⟨d, hd, dp⟩ := nw_in d3 x hx
    have nf : H f ≠ none := fun z => by
      obtain ⟨⟨kvs, _, _, _, h1, _⟩, _, _⟩ := fd0
      rw [h1] at z
      cases z
    refine q x d G ?_ (dp.to fun b o n e => k b o (fun z => nf (z ▸ n)) e) ((keep_same sA).trans k) fdG
    exact hd
end
end Kn


namespace Kn
open PySem PySem.Spec PyProof.Rows L2 LamX
abbrev nLaw : List Str := ["_law_script", "_law_feed", "_law_lap", "_law_page_here", "_law_labels_here", "_law_late_here", "_law_sign", "_law_one", "_law_two", "_law_lone", "_law_told", "_law_turn", "_law_odd", "_law_label"]
theorem scLaw : FnScope nLaw ["_law_script"] (defScope (topS 39)) := ⟨rfl, rfl, rfl, by decide +kernel, rfl, by decide +kernel, by decide +kernel⟩
def spLaw (K : PySem.W.Frag) (T : List (Addr × Str)) : Sp := fun vs H Q _ => ∃ (a : Addr) (ns : List Int), vs = [.ref a] ∧ SqL K H a (ns.map V.int) ∧ ns.length ≤ 63 ∧ Tabs T H ∧ ∀ H', Q (.bl true) H'
theorem cb1 {r : List V → Hp → VK → Prop} {t : TE} {σ : L2.St} {H : Hp} {Q : VK} (h : t σ H fun v G => r [v] G Q) : tCB r (tCons t tNil) σ H Q := h
section
variable {P : Program} {w : World} {K : PySem.W.Frag} {mg : Str → Option Value} {base : Heap}
theorem ok_law {g T0 D gB gP gN gL gA gO gS gV gU : Addr} {fd fB fP fN fL fA fO fS fV fU : FuncData} (F : Fun K "law" "law" (topS 39) g fd)
    (B : Def K mg "_law_start" 22 ["_law_script"] gB fB) (OB : FnOk P w K mg base CX0 1 gB fB ["_law_script"] (spStart K))
    (G : Def K mg "_law_page" 26 ["_law_feed", "_law_most"] gP fP) (OG : FnOk P w K mg base CX0 4 gP fP ["_law_feed", "_law_most"] (spPg K))
    (N : Def K mg "_law_any" 24 ["_law_feed", "_law_some"] gN fN) (ON : FnOk P w K mg base CX0 2 gN fN ["_law_feed", "_law_some"] (spAny K))
    (LL : Def K mg "_law_labels_of" 33 ["_law_page_here"] gL fL) (OL : FnOk P w K mg base CX0 1 gL fL ["_law_page_here"] (spLabOf K))
    (S : Def K mg "_law_strange" 27 ["_law_feed"] gS fS) (OS : FnOk P w K mg base CX0 3 gS fS ["_law_feed"] (spStrangeN K))
    (O : Def K mg "_law_odds" 32 [] gO fO) (OO : FnOk P w K mg base CX0 1 gO fO [] (spOdds K))
    (A1 : Def K mg "renamed" 19 ["web", "kind", "name"] gA fA) (O1 : FnOk P w K mg base (L2.CX P w) 4 gA fA ["web", "kind", "name"] (spRen K D)) (k1 : ∀ (s : Shared) (u v z : Value), BindsTo s fA ⟨[], [("name", u), ("kind", v), ("web", z)]⟩ [("web", z), ("kind", v), ("name", u)])
    (U : Def K mg "_law_is_turned" 38 ["_law_page_here", "_law_one", "_law_two"] gU fU) (OT : Vow P w K mg base 5 gU fU ["_law_page_here", "_law_one", "_law_two"] (spTd K))
    (kV : PySem.W.keepIn K (.ref gV) = true) (bV : Binds K fV ["_law_page_here", "_law_sign", "_law_label"] []) (mV : mg "_law_is_right" = some (.ref gV)) (OV : Vow P w K mg base 7 gV fV ["_law_page_here", "_law_sign", "_law_label"] (spRt K (TT1 T0)))
    (mr : mg "range" = none) (mp : mg "repr" = none) :
    Vow P w K mg base 8 g fd ["_law_script"] (spLaw K (TT1 T0)) := by
  refine Vow.body F scLaw (fun vs H Q E h => ?_) (fun cdv A outer s H vs Q E hq hr h => ?_)
  · obtain ⟨a, ns, rfl, _⟩ := h
    rfl
  · obtain ⟨a0, ns0, rfl, hS, hl, tb, q⟩ := h
    have hr1 : Room 1 _ := hr.mono (by decide)
    have hr2 : Room 2 _ := hr.mono (by decide)
    have hr3 : Room 3 _ := hr.mono (by decide)
    have hr4 : Room 4 _ := hr.mono (by decide)
    have hr5 : Room 5 _ := hr.mono (by decide)
    refine ⟨_, (pss_cons (ps_set (i := 1) scLaw.nd rfl (.inr rfl) (pe_call OB hr1 (by rfl) B.m B.F.kp B.b .nil pass0 (pa_cons (pv 0) pa_nil)))
      (pss_cons (ps_for PassesOwn.never rfl (pi_range1 (by rfl) mr (pa_cons pe_int pa_nil)) (pg_name (i := 2) scLaw.nd rfl (.inl rfl)) (pss_cons (ps_set (i := 3) scLaw.nd rfl (.inr rfl) (pe_call OG hr4 (by rfl) G.m G.F.kp G.b .nil pass0 (pa_cons (pv 1) (pa_cons pe_int pa_nil))))
      (pss_cons (ps_set (i := 4) scLaw.nd rfl (.inl rfl) (pe_call OL hr1 (by rfl) LL.m LL.F.kp LL.b .nil pass0 (pa_cons (pv 3) pa_nil)))
      (pss_cons (ps_set (i := 5) scLaw.nd rfl (.inl rfl) (pe_op op_cat (pe_op op_cat (pv 4) (pe_lst (pa_cons pe_str (pa_cons pe_str (pa_cons pe_str (pa_cons (pe_op op_add_str (pe_ix ix_list (pv 4) pe_int (fun _ _ => rfl)) pe_str) (pa_cons pe_str pa_nil))))))) (pe_lc (own := [("_law_turn", 11)]) (g := gName 11) (by rfl) scLaw.nd (pi_range1 (by rfl) mr (pa_cons pe_int pa_nil)) (blkOk_by (own := [("_law_turn", 11)]) (N := nLaw) (sc := defScope (topS 39)) (by decide +kernel)) (fun _ _ _ _ _ => pg_name (i := 11) scLaw.nd rfl (Or.inl rfl)) (fun _ _ _ _ _ => pts_nil) (fun _ _ _ _ _ => (pe_call OS hr3 (by rfl) S.m S.F.kp S.b .nil pass0 (pa_cons (pv 1) pa_nil))))))
      (pss_cons (ps_for PassesOwn.never rfl (pi_list (pe_op op_cat (pv 4) (pe_lst (pa_cons (pe_call ON hr2 (by rfl) N.m N.F.kp N.b .nil pass0 (pa_cons (pv 1) (pa_cons (pe_call0 OO hr1 (by rfl) O.m O.F.kp O.b .nil pass0) pa_nil))) pa_nil)))) (pg_name (i := 6) scLaw.nd rfl (.inr rfl)) (pss_one (ps_if (pt_cmpR (op_neD hr.units) (pe_lc (own := [("_law_label", 13)]) (g := gName 13) (by rfl) scLaw.nd (pi_list (pe_op op_cat (pv 5) (pe_call0 OO hr1 (by rfl) O.m O.F.kp O.b .nil pass0))) (blkOk_by (own := [("_law_label", 13)]) (N := nLaw) (sc := defScope (topS 39)) (by decide +kernel)) (fun _ _ _ _ _ => pg_name (i := 13) scLaw.nd rfl (Or.inl rfl)) (fun _ _ _ _ _ => (pts_one (pt_not (pt_val (pe_vow OV hq hr (by rfl) mV kV bV (pa_cons (pv 3) (pa_cons (pv 6) (pa_cons (pv 13) pa_nil)))))))) (fun _ _ _ _ _ => (pv 13))) (pe_lst pa_nil) (nomark _)) (pss_one (ps_ret pe_bl)) pss_nil)))
      (pss_cons (ps_if (pt_cmpR (op_neD hr.units) (pe_lc (own := [("_law_odd", 12)]) (g := gName 12) (by rfl) scLaw.nd (pi_list (pe_call0 OO hr1 (by rfl) O.m O.F.kp O.b .nil pass0)) (blkOk_by (own := [("_law_odd", 12)]) (N := nLaw) (sc := defScope (topS 39)) (by decide +kernel)) (fun _ _ _ _ _ => pg_name (i := 12) scLaw.nd rfl (Or.inl rfl)) (fun _ _ _ _ _ => (pts_one (pt_not (pt_val (pe_vow OV hq hr (by rfl) mV kV bV (pa_cons (pv 3) (pa_cons (pv 12) (pa_cons pe_str pa_nil)))))))) (fun _ _ _ _ _ => (pv 12))) (pe_lst pa_nil) (nomark _)) (pss_one (ps_ret pe_bl)) pss_nil)
      (pss_cons (ps_par (i := 7) (j := 8) (by rfl) scLaw.nd rfl rfl (by decide) rfl rfl (pa_cons (pe_call ON hr2 (by rfl) N.m N.F.kp N.b .nil pass0 (pa_cons (pv 1) (pa_cons (pv 4) pa_nil))) (pa_cons (pe_call ON hr2 (by rfl) N.m N.F.kp N.b .nil pass0 (pa_cons (pv 1) (pa_cons (pv 4) pa_nil))) pa_nil)) (by rfl))
      (pss_one (ps_if (PW.pt (pw_and (pt_cmpR op_ne (pv 7) (pv 8) (nomark _)) (pw_and1 (pt_not (pt_val (pe_vow OT hq hr5 (by rfl) U.m U.F.kp U.b (pa_cons (pv 3) (pa_cons (pv 7) (pa_cons (pv 8) pa_nil))))))))) (pss_one (ps_ret pe_bl)) pss_nil)))))))))
      (pss_cons (ps_set (i := 9) scLaw.nd rfl (.inl rfl) (pe_tup (pa_cons (pe_tup (pa_cons (pe_tup (pa_cons pe_str (pa_cons pe_int (pa_cons pe_bl (pa_cons (pe_tup (pa_cons pe_str (pa_cons pe_str pa_nil))) pa_nil))))) (pa_cons (pe_tup (pa_cons pe_str (pa_cons pe_int (pa_cons pe_bl (pa_cons (pe_tup (pa_cons pe_str pa_nil)) pa_nil))))) pa_nil))) (pa_cons pe_str pa_nil))))
      (pss_cons (ps_set (i := 10) scLaw.nd rfl (.inl rfl) (pe_kw3 O1 hr4 (by rfl) A1.m A1.F.kp k1 pe_str pe_str (pv 9)))
      (pss_one (ps_ret (pe_cmpR op_eq (pe_callB (call_show hq hr.units) (by rfl) mp boot_repr (pa_cons (pv 10) pa_nil)) (pe_callB (call_show hq hr.units) (by rfl) mp boot_repr (pa_cons (pe_tup (pa_cons (pe_tup (pa_cons (pe_tup (pa_cons pe_str (pa_cons pe_int (pa_cons pe_bl (pa_cons (pe_tup (pa_cons pe_str pa_nil)) pa_nil))))) (pa_cons (pe_tup (pa_cons pe_str (pa_cons pe_int (pa_cons pe_bl (pa_cons (pe_tup (pa_cons pe_str (pa_cons pe_str pa_nil))) pa_nil))))) pa_nil))) (pa_cons pe_str pa_nil))) pa_nil)) (nomark _)))))))), ?_⟩
    refine ⟨.ref a0, rfl, a0, ns0, rfl, hS, hl, fun f a ms H1 _ sm1 fd1 => ?_⟩
    have tb1 := tb.ext sm1
    refine ⟨2, rfl, by decide, by decide, for_range (lo := 0) (n := (2 : Int).toNat) (fun i σ J => (∃ y2 y3 y4 y5 y6 y7 y8 y9 y10 y11 y12 y13, σ = [some (.ref a0), some (.ref f), y2, y3, y4, y5, y6, y7, y8, y9, y10, y11, y12, y13]) ∧ Fd f a ms J (1000 * i) ∧ Tabs (TT1 T0) J)
      ⟨⟨none, none, none, none, none, none, none, none, none, none, none, none, rfl⟩, fd1, tb1⟩ ?_ ?_⟩
    · rintro i σ J hi ⟨⟨y2, y3, y4, y5, y6, y7, y8, y9, y10, y11, y12, y13, rfl⟩, fdJ, tbJ⟩
      have hi : i < 2 := hi
      refine ⟨_, rfl, f, a, ms, _, 5, rfl, by decide, by decide, fdJ, by omega, fun v pg J1 pg1 ok1 nice1 asc1 own1 asks1 g0 g5 k1' fd1 => ?_⟩
      have gd : Gd pg := gd_of nice1 asc1 own1 asks1 g5
      have tb1 := tabs_fd tbJ fdJ k1'
      have nmn : ∀ s ∈ nms pg, s ∈ names := fun s hs => by
        obtain ⟨e, he, rfl⟩ := List.mem_map.mp hs
        exact (nice1 e he).1
      -- the labels
      refine ⟨v, rfl, v, pg, rfl, pg1, ok1, fun LB J2 s2 nLB hLB => ?_⟩
      dsimp only [gName]
      have fd2 := fd1.same s2
      have tb2 := tb1.ext s2
      have pg2 := pg1.same s2
      have lab : ((nms pg).map V.str)[0]? = some (.str ((nms pg)[0]'(by rw [List.length_map]; exact g0))) := by
        rw [List.getElem?_map, List.getElem?_eq_getElem (by rw [List.length_map]; exact g0)]
        rfl
      have lnm := List.getElem_mem (l := nms pg) (n := 0) (by rw [List.length_map]; exact g0)
      generalize (nms pg)[0]'(by rw [List.length_map]; exact g0) = s0 at lab lnm
      have l5 : ((nms pg).map V.str).length ≤ 5 := by rw [List.length_map, List.length_map]; exact g5
      have l0 : 0 < ((nms pg).map V.str).length := by rw [List.length_map, List.length_map]; exact g0
      have labF : ∀ (H : Hp), ∀ x ∈ (nms pg).map V.str, FV K H x := fun H x hx => by
        obtain ⟨s, hs, rfl⟩ := List.mem_map.mp hx
        exact ⟨.str s, .str s, fine_nm (gd.nm s hs)⟩
      have labS : ∀ x ∈ (nms pg).map V.str, ∃ s ∈ nms pg, x = .str s := fun x hx => by
        obtain ⟨s, hs, rfl⟩ := List.mem_map.mp hx
        exact ⟨s, hs, rfl⟩
      have hLB : J2 LB = some (.lst ((nms pg).map V.str)) := hLB
      generalize (nms pg).map V.str = labs at lab l5 l0 labF labS hLB
      -- the new names
      refine ⟨.ref LB, rfl, .ref LB, rfl, LB, labs, 0, .str s0, rfl, rfl, .inl (.inl hLB), atI_nat (j := 0) lab, _, _, rfl, rfl, Nat.le_trans (Nat.add_le_add (names_fit _ (nmn s0 lnm)).1 (fit_of "q" (n := 1) (by decide)).1) (by decide), (show 5 ≤ sizeLine by decide), fun R nR => ?_⟩
      have zR := same_new (o := .lst [V.str "aa", V.str "zzzzzzzz", V.str "y", V.str (s0 ++ "q"), V.str "kinds"]) nR
      refine ⟨LB, R, labs, [V.str "aa", V.str "zzzzzzzz", V.str "y", V.str (s0 ++ "q"), V.str "kinds"], rfl, rfl, zR _ _ hLB, upd_same, Nat.le_trans (show labs.length + 5 ≤ 10 by omega) (by decide), fun O1' nO1 => ?_⟩
      have zO := same_new (o := .lst (labs ++ [V.str "aa", V.str "zzzzzzzz", V.str "y", V.str (s0 ++ "q"), V.str "kinds"])) nO1
      have sA := zR.trans zO
      have eO1 : (upd (upd J2 R (.lst [V.str "aa", V.str "zzzzzzzz", V.str "y", V.str (s0 ++ "q"), V.str "kinds"])) O1' (.lst (labs ++ [V.str "aa", V.str "zzzzzzzz", V.str "y", V.str (s0 ++ "q"), V.str "kinds"]))) O1' = some (.lst (labs ++ [V.str "aa", V.str "zzzzzzzz", V.str "y", V.str (s0 ++ "q"), V.str "kinds"])) := upd_same
      have F1 : ∀ (H : Hp), ∀ x ∈ labs ++ [V.str "aa", V.str "zzzzzzzz", V.str "y", V.str (s0 ++ "q"), V.str "kinds"], FV K H x := fun H x hx => by
        rcases List.mem_append.mp hx with h | h
        · exact labF H x h
        · simp only [List.mem_cons, List.not_mem_nil, or_false] at h
          rcases h with rfl | rfl | rfl | rfl | rfl
          · exact ⟨_, .str _, fine_new _ (by simp)⟩
          · exact ⟨_, .str _, fine_new _ (by simp)⟩
          · exact ⟨_, .str _, fine_new _ (by simp)⟩
          · exact ⟨_, .str _, fine_more s0 (nmn s0 lnm)⟩
          · exact ⟨_, .str _, fine_new _ (by simp)⟩
      have l1 : (labs ++ [V.str "aa", V.str "zzzzzzzz", V.str "y", V.str (s0 ++ "q"), V.str "kinds"]).length ≤ 10 := by rw [List.length_append]; exact Nat.add_le_add l5 (Nat.le_refl 5)
      have fd3 := fd2.same sA
      have tb3 := tb2.ext sA
      have pg3 := pg2.same sA
      have hLB3 := sA _ _ hLB
      dsimp only [gName]
      generalize upd (upd J2 R (.lst [V.str "aa", V.str "zzzzzzzz", V.str "y", V.str (s0 ++ "q"), V.str "kinds"])) O1' (.lst (labs ++ [V.str "aa", V.str "zzzzzzzz", V.str "y", V.str (s0 ++ "q"), V.str "kinds"])) = J3 at eO1 fd3 tb3 pg3 hLB3 ⊢
      generalize labs ++ [V.str "aa", V.str "zzzzzzzz", V.str "y", V.str (s0 ++ "q"), V.str "kinds"] = new at eO1 F1 l1
      clear zR zO sA nR nO1 pg2 tb2 fd2 s2 lab
      -- strange ones
      refine ⟨4, rfl, by decide, by decide, fun Ds nDs => ?_⟩
      have ndf := fd3.free nDs
      have base : ∀ G : Hp, Keep f J3 G → G f ≠ none → G Ds ≠ none → ∀ b, G b = none → (upd J3 Ds (.lst [])) b = none := fun G k g1 g2 b n => by
        have bD : b ≠ Ds := fun z => g2 (z ▸ n)
        have bf : b ≠ f := fun z => g1 (z ▸ n)
        rw [upd_ne bD]
        cases e : J3 b with
        | none => rfl
        | some o =>
          rw [k b o bf e] at n
          cases n
      have fdS : ∀ {G : Hp} {c : Nat}, Fd f a ms G c → G f ≠ none := fun h z => by
        obtain ⟨⟨kvs, _, _, _, h1, _⟩, _, _⟩ := h
        rw [h1] at z
        cases z
      have bsD : (upd J3 Ds (.lst [])) Ds = some (.lst []) := upd_same
      have bsf : (upd J3 Ds (.lst [])) f ≠ none := fdS (fd3.same (same_new nDs))
      refine lc_range (lo := 0) (n := (4 : Int).toNat) (fun j G => Keep f J3 G ∧ Fd f a ms G (1000 * i + 100 + j) ∧ ∃ xs : List V, G Ds = some (.lst xs) ∧ xs.length = j ∧ ∀ x ∈ xs, ∃ d, Nw K (upd J3 Ds (.lst [])) G x d ∧ Fine d)
        ⟨keep_same (same_new nDs), (fd3.same (same_new nDs)).more (by omega), [], upd_same, rfl, fun x hx => by cases hx⟩ ?_ ?_
      · rintro j G hj ⟨kG, fdG, xs, eD, lx, fx⟩
        have hj : j < 4 := hj
        refine ⟨rfl, ?_⟩
        simp only [tYes, ↓reduceIte]
        refine ⟨.ref f, rfl, f, a, ms, _, rfl, fdG, by omega, fun r d G2 hd dp k2 fd2 => ?_⟩
        have eD2 := k2 _ _ (fd_ne fdG eD) eD
        refine ⟨xs, eD2, small' (by omega), ?_, (fd2.own ndf.1 ndf.2).more (by omega), xs ++ [r], upd_same, by rw [List.length_append, lx]; rfl, fun x hx => ?_⟩
        · intro b o nb hb
          rw [upd_ne (ne_of_none hb nDs)]
          exact (kG.trans k2) b o nb hb
        · have up : ∀ b o, (upd J3 Ds (.lst [])) b = none → G2 b = some o → (upd G2 Ds (.lst (xs ++ [r]))) b = some o := fun b o n e => by
            rw [upd_ne (fun z => by rw [z, bsD] at n; cases n)]
            exact e
          rcases List.mem_append.mp hx with h | h
          · obtain ⟨d', p, q'⟩ := fx x h
            refine ⟨d', p.to fun b o n e => up b o n (k2 b o (fun z => bsf (z ▸ n)) e), q'⟩
          · rw [List.mem_singleton.mp h]
            exact ⟨d, (dp.from (base G kG (fdS fdG) (by rw [eD]; intro z; cases z))).to up, fine_strange d hd⟩
      rintro G ⟨kG, fdG, xs, eD, lx, fx⟩
      have lx : xs.length = 4 := lx
      have fx : ∀ x ∈ xs, FV K G x := fun x hx => by
        obtain ⟨d, p, q'⟩ := fx x hx
        exact ⟨d, p.dp, q'⟩
      have tbG := tabs_fd tb3 fd3 kG
      have pgG := pg3.ts (ts_fd fd3 kG)
      have hLBG := kG _ _ (fd_ne fd3 hLB3) hLB3
      have eO1G := kG _ _ (fd_ne fd3 eO1) eO1
      clear base fdS bsD bsf tb3 pg3 hLB3
      refine ⟨O1', Ds, new, xs, rfl, rfl, eO1G, eD, Nat.le_trans (show new.length + xs.length ≤ 14 by omega) (by decide), fun O2 nO2 => ?_⟩
      have s4 := same_new (o := .lst (new ++ xs)) nO2
      have eO2 : (upd G O2 (.lst (new ++ xs))) O2 = some (.lst (new ++ xs)) := upd_same
      have F2 : ∀ x ∈ new ++ xs, FV K (upd G O2 (.lst (new ++ xs))) x := fun x hx => by
        rcases List.mem_append.mp hx with h | h
        · exact F1 _ x h
        · exact (fx x h).same s4
      have l2 : (new ++ xs).length ≤ 14 := by rw [List.length_append]; omega
      have fd4 := fdG.same s4
      have tb4 := tbG.ext s4
      have pg4 := pgG.same s4
      have hLB4 := s4 _ _ hLBG
      dsimp only [gName]
      generalize upd G O2 (.lst (new ++ xs)) = J4 at eO2 F2 fd4 tb4 pg4 hLB4 ⊢
      generalize new ++ xs = lates at eO2 F2 l2
      clear s4 nO2 fx tbG pgG hLBG eO1G eD kG nDs ndf fdG fd3 eO1 F1 l1 lx
      -- who is called otherwise
      refine ⟨.ref LB, rfl, .ref f, rfl, rfl, fun L0 os J5 s5 hL0 hd0 => ⟨f, a, L0, ms, _, os, rfl, fd4.same s5, by omega, .inl (.inl hL0), by rw [dv_len hd0]; decide, by rw [dv_len hd0]; decide, fun x0 J6 hx0 k6 fd6 => ⟨(show 1 ≤ sizeLine by decide), fun R6 nR6 => ?_⟩⟩⟩
      have z6 := same_new (o := .lst [x0]) nR6
      have hLB6 := k6 _ _ (fd_ne (fd4.same s5) (s5 _ _ hLB4)) (s5 _ _ hLB4)
      refine ⟨LB, R6, labs, [x0], rfl, rfl, z6 _ _ hLB6, upd_same, Nat.le_trans (show labs.length + 1 ≤ 10 by omega) (by decide), fun O3 nO3 => ?_⟩
      have z7 := z6.trans (same_new (o := .lst (labs ++ [x0])) nO3)
      have eO3 : (upd (upd J6 R6 (.lst [x0])) O3 (.lst (labs ++ [x0]))) O3 = some (.lst (labs ++ [x0])) := upd_same
      have eO2' := z7 _ _ (k6 _ _ (fd_ne (fd4.same s5) (s5 _ _ eO2)) (s5 _ _ eO2))
      have hLB7 := z7 _ _ hLB6
      have F2' : ∀ x ∈ lates, FV K (upd (upd J6 R6 (.lst [x0])) O3 (.lst (labs ++ [x0]))) x := fun x hx => (((F2 x hx).same s5).keep (fd4.same s5) k6).same z7
      have F3 : ∀ x ∈ labs ++ [x0], FV K (upd (upd J6 R6 (.lst [x0])) O3 (.lst (labs ++ [x0]))) x := fun x hx => by
        rcases List.mem_append.mp hx with h | h
        · exact labF _ x h
        · rw [List.mem_singleton.mp h]
          have z : FV K J5 x0 := fine_in hd0 fine_odds x0 hx0
          exact (z.keep (fd4.same s5) k6).same z7
      have fd7 := fd6.same z7
      have tb7 := (tabs_fd (tb4.ext s5) (fd4.same s5) k6).ext z7
      have pg7 := (((pg4.same s5).ts (ts_fd (fd4.same s5) k6))).same z7
      generalize upd (upd J6 R6 (.lst [x0])) O3 (.lst (labs ++ [x0])) = J7 at eO3 eO2' hLB7 F2' F3 fd7 tb7 pg7 ⊢
      clear z6 z7 nR6 nO3 hLB6 k6 hx0 hd0 hL0 s5 F2 fd4 tb4 pg4 hLB4 eO2 fd6
      generalize labs ++ [x0] = sgs at eO3 F3
      refine ⟨O3, rfl, ⟨_, .inl (.inl eO3)⟩, for_list (K := K) (a := O3) (xs := sgs) (fun j σ X => (∃ y6 y7 y8 y9 y10 y11 y12 y13, σ = [some (.ref a0), some (.ref f), some (.int (0 + (i : Int))), some v, some (.ref LB), some (.ref O2), y6, y7, y8, y9, y10, y11, y12, y13]) ∧ ExtN J7 X ∧ Tabs (TT1 T0) X) ?_ ?_ ?_ ?_⟩
      · exact ⟨⟨y6, y7, y8, y9, y10, y11, y12, y13, rfl⟩, ExtN.refl J7, tb7⟩
      · exact fun j σ X _ h => seqE h.2.1 (.inl (.inl eO3))
      · rintro j x σ X hx ⟨⟨y6, y7, y8, y9, y10, y11, y12, y13, rfl⟩, eX, tX⟩
        obtain ⟨dk, dpk, fk⟩ := (F3 x (List.mem_of_getElem? hx)).ext eX
        have eO2X := ext_lst eX eO2'
        refine ⟨.ref O2, rfl, rfl, fun L0 os X1 s1 hL0 hd0 => ⟨O2, L0, lates, os, rfl, rfl, s1 _ _ eO2X, hL0, Nat.le_trans (show lates.length + os.length ≤ 27 by have : os.length = 13 := dv_len hd0; omega) (by decide), fun O4 nO4 => ?_⟩⟩
        have s4 := same_new (o := .lst (lates ++ os)) nO4
        have F4 : ∀ x ∈ lates ++ os, FV K (upd X1 O4 (.lst (lates ++ os))) x := fun x hx => by
          rcases List.mem_append.mp hx with h | h
          · exact (((F2' x h).ext eX).same s1).same s4
          · have z : FV K X1 x := fine_in hd0 fine_odds x h
            exact z.same s4
        have eO4 : (upd X1 O4 (.lst (lates ++ os))) O4 = some (.lst (lates ++ os)) := upd_same
        have eX4 := eX.trans (ext_same (s1.trans s4))
        have tX4 := tX.ext (s1.trans s4)
        have dpk4 := dKeep (s1.trans s4) dpk
        generalize upd X1 O4 (.lst (lates ++ os)) = X4 at F4 eO4 eX4 tX4 dpk4 ⊢
        generalize lates ++ os = asked at F4 eO4
        refine ⟨O4, rfl, ⟨_, .inl (.inl eO4)⟩, fun D2 nD2 => ?_⟩
        refine lc_list (K := K) (a := O4) (xs := asked) (fun j Y => ExtN X4 Y ∧ Tabs (TT1 T0) Y ∧ Y D2 = some (.lst [])) ⟨ext_same (same_new nD2), tX4.ext (same_new nD2), upd_same⟩ (fun j Y _ h => seqE h.1 (.inl (.inl eO4))) ?_ ?_
        · rintro j' y Y hy ⟨eY, tY, eD2⟩
          obtain ⟨dx, dpx, fx⟩ := (F4 y (List.mem_of_getElem? hy)).ext eY
          refine ⟨rfl, ?_⟩
          refine ⟨_, rfl, _, rfl, _, rfl, v, x, y, pg, dk, dx, rfl, (pg7.ts (ext_ts eX4)).ts (ext_ts eY), gd, dpE eY dpk4, fk, dpx, fx, tY, fun X' e' t' => ⟨true, rfl, ?_⟩⟩
          exact iteF ⟨eY.trans e', t', ext_lst e' eD2⟩
        · rintro Y ⟨eY, tY, eD2⟩
          refine ⟨Nat.zero_le _, fun z2 nz2 => ⟨.list [], .list [], .lst (.inl (.inl (same_new nz2 _ _ eD2))) .nil, .lst (.inl (.inl upd_same)) .nil, rfl, rfl, _, rfl, ?_⟩⟩
          exact iteF ⟨⟨_, _, _, _, _, _, _, _, rfl⟩, (eX4.trans eY).trans (ext_same (same_new nz2)), tY.ext (same_new nz2)⟩
      · rintro σ X ⟨⟨y6, y7, y8, y9, y10, y11, y12, y13, rfl⟩, eX, tX⟩
        have fdX := fd7.ext eX
        have pgX := pg7.ts (ext_ts eX)
        have hLX := ext_lst eX hLB7
        -- who is nobody
        refine ⟨rfl, fun L0 os X1 s1 hL0 hd0 => ⟨L0, rfl, ⟨_, .inl (.inl hL0)⟩, fun D2 nD2 => ?_⟩⟩
        have F5 := fine_in hd0 fine_odds
        refine lc_list (K := K) (a := L0) (xs := os) (fun j Y => ExtN X1 Y ∧ Tabs (TT1 T0) Y ∧ Y D2 = some (.lst [])) ⟨ext_same (same_new nD2), (tX.ext s1).ext (same_new nD2), upd_same⟩ (fun j Y _ h => seqE h.1 (.inl (.inl hL0))) ?_ ?_
        · rintro j' y Y hy ⟨eY, tY, eD2⟩
          obtain ⟨dx, dpx, fx⟩ := FV.ext eY (F5 y (List.mem_of_getElem? hy))
          refine ⟨rfl, ?_⟩
          refine ⟨_, rfl, _, rfl, v, y, .str "aa", pg, dx, .str "aa", rfl, (pgX.same s1).ts (ext_ts eY), gd, dpx, fx, .str _, fine_new _ (by simp), tY, fun X' e' t' => ⟨true, rfl, ?_⟩⟩
          exact iteF ⟨eY.trans e', t', ext_lst e' eD2⟩
        rintro Y ⟨eY, tY, eD2⟩
        refine ⟨Nat.zero_le _, fun z2 nz2 => ⟨.list [], .list [], .lst (.inl (.inl (same_new nz2 _ _ eD2))) .nil, .lst (.inl (.inl upd_same)) .nil, rfl, rfl, _, rfl, iteF ?_⟩⟩
        have eZ := ((ext_same s1).trans eY).trans (ext_same (same_new (o := .lst []) nz2))
        have tZ := tY.ext (same_new (o := .lst []) nz2)
        have fdZ := fdX.ext eZ
        have pgZ := pgX.ts (ext_ts eZ)
        have hLZ := ext_lst eZ hLX
        dsimp only [tNext]
        generalize upd Y z2 (.lst []) = Z at tZ fdZ pgZ hLZ ⊢
        -- two turned about
        refine ⟨.ref f, rfl, .ref LB, rfl, f, a, LB, ms, _, _, rfl, fdZ, by omega, .inl (.inl hLZ), l0, Nat.le_trans l5 (by decide), fun x1 Z1 hx1 k1 fdZ1 => ?_⟩
        have hLZ1 := k1 _ _ (fd_ne fdZ hLZ) hLZ
        refine ⟨.ref f, rfl, .ref LB, rfl, f, a, LB, ms, _, _, rfl, fdZ1, by omega, .inl (.inl hLZ1), l0, Nat.le_trans l5 (by decide), fun x2 Z2 hx2 k2 fdZ2 => ⟨_, _, rfl, ?_⟩⟩
        obtain ⟨n1, hn1, rfl⟩ := labS x1 hx1
        obtain ⟨n2, hn2, rfl⟩ := labS x2 hx2
        have tZ2 := tabs_fd (tabs_fd tZ fdZ k1) fdZ1 k2
        have pgZ2 := (pgZ.ts (ts_fd fdZ k1)).ts (ts_fd fdZ1 k2)
        dsimp only [gName]
        refine ⟨_, rfl, _, rfl, rfl, ?_⟩
        by_cases ab : n1 = n2
        · rw [decide_eq_true (congrArg V.str ab)]
          refine ⟨_, rfl, iteF (iteF ?_)⟩
          exact ⟨⟨_, _, _, _, _, _, _, _, _, _, _, _, rfl⟩, fdZ2.more (by omega), tZ2⟩
        · rw [decide_eq_false (fun z => ab (V.str.inj z))]
          refine ⟨_, rfl, iteT ?_⟩
          refine ⟨v, rfl, _, rfl, _, rfl, v, pg, n1, n2, rfl, pgZ2, gd, hn1, hn2, ab, fun z => nob_names (nmn _ z), fun Z3 s3 => ⟨true, rfl, iteF ?_⟩⟩
          exact ⟨⟨_, _, _, _, _, _, _, _, _, _, _, _, rfl⟩, (fdZ2.same s3).more (by omega), tZ2.ext s3⟩
    · rintro σ J ⟨⟨y2, y3, y4, y5, y6, y7, y8, y9, y10, y11, y12, y13, rfl⟩, _, tbJ⟩
      obtain ⟨na, nc, nd⟩ := acd
      have gdD : Gd gDue := by
        have z := (ren_back gd_lone (names_nm _ nd) (o := "a") (List.mem_cons_self ..) (.inr d_free)).1
        rw [lone_ren] at z
        exact z
      have shp := sh_pg gdD.ok
      dsimp only
      refine seq_asg (page2 (K := K) (r1 := ["a", "c"]) (r2 := ["a"]) (fun J R r => r) (fun J R r => r) (by decide) (by decide) (fun v J1 s1 h1 => ?_))
      dsimp only [gName]
      refine ⟨v, rfl, v, .str "a", .str "d", gLone, .str "a", .str "d", rfl, h1, gd_lone, .str _, (names_nm _ na).shaped, .str _, nice_nm (names_nm _ nd), res_yes (ren_yes (List.mem_cons_self ..) (names_nm _ nd) (.inr d_free)) (fun v2 J2 s2 h2 => ?_)⟩
      rw [lone_ren] at h2
      obtain ⟨p2, _, _, rfl, _⟩ := id h2
      refine ⟨.ref p2, rfl, p2, dPg gDue, rfl, h2.dp, shp.ok, shp.nd, Nat.le_trans shp.dp (by decide), Nat.le_trans shp.ln (by decide), ?_⟩
      dsimp only
      refine cb1 (page2 (K := K) (r1 := ["d"]) (r2 := ["c", "d"]) (by intro J R r; exact r) (by intro J R r; exact r) (by decide) (by decide) (fun v3 J3 s3 h3 => ?_))
      obtain ⟨p3, _, _, rfl, _⟩ := id h3
      refine ⟨p3, dPg gDue, rfl, h3.dp, shp.ok, shp.nd, Nat.le_trans shp.dp (by decide), Nat.le_trans shp.ln (by decide), rfl, ?_⟩
      rw [decide_eq_true rfl]
      exact q _
end
end Kn


/-! Kn: the end of a law that makes lambdas, its promise a Vow. -/
namespace Kn
open PySem PySem.Spec PyProof.Rows L2 LamX
section
variable {P : Program} {w : World} {K : PySem.W.Frag} {mg mb : Str → Option Value} {k : Nat} {fa a : Addr} {fd : FuncData} {x : Str} {sp : Sp} {s : Shared} {vs : List Value} {ns : List Int} {cs : List (Addr × Addr)}
theorem end_vowT (kin : K.In s.heap) (nsm : s.heap.Ns mainGlobals mg) (nsb : s.heap.Ns builtinsNs mb) (boot : ∀ y : Str, y ≠ "__name__" → mb y = bootBuiltins y) (lim : s.heap.NoLimit) (gens : s.gens = #[])
    (empty : ∀ q ∈ cs, s.heap.get? q.2 = some { cls := .none, data := .fields #[] }) (aside : ∀ q ∈ cs, K.lookup q.2 = none) (codes : ∀ q ∈ cs, PySem.W.CodeHd s.heap q.1 q.2)
    (module : ∃ (bm : Addr) (ob : Obj), mg "__builtins__" = some (.ref bm) ∧ bm ≠ builtinsNs ∧ s.heap.get? bm = some ob ∧ ob.cls = .type "module" ∧ ob.dict = some builtinsNs ∧ ob.data = .plain)
    (at_ : s.heap.get? a = some { cls := .type "list", data := .seq vs.toArray }) (iv : IntsAre vs ns) (short : ns.length ≤ sizeLine) (room : Room k callerA)
    (F : ∀ base : Heap, K.In base → base.Ns mainGlobals mg → (∀ q ∈ cs, TabB base mg q.1 q.2) → Vow P w K mg base k fa fd [x] sp) (bound : ∀ (z : Shared) (u : Value), BindsTo z fd ⟨[u], []⟩ [(x, u)])
    (told : ∀ H : Hp, (∀ q ∈ cs, H q.2 = some (.tbl #[])) → SqL K H a (ns.map V.int) → sp [.ref a] H (fun v _ => v = .bl true) E0) :
    codeAny (model P w) callerA (.call (.ref fa) ⟨[.ref a], []⟩) (fun r s' => r = .ok (.ret (.bool true)) ∧ OldK s.heap s'.heap ∧ s'.os = s.os ∧ AllBare s'.gens) s := by
  have many : ns.length = vs.length := by rw [iv.length]
  have rv : Vals (ns.map V.int) vs := vals_ints iv
  have tabAt : ∀ b : Addr, b ∈ cs.map (·.2) → s.heap.get? b = some { cls := .none, data := .fields #[] } := by
    intro b hb
    obtain ⟨q, hq, rfl⟩ := List.mem_map.mp hb
    exact empty q hq
  have apart : a ∉ cs.map (·.2) := by
    intro z
    have y := tabAt a z
    rw [at_] at y
    have y2 : Data.seq vs.toArray _ = Data.fields #[] := congrArg Obj.data (Option.some.inj y)
    cases y2
  have inT : ∀ q ∈ cs, q.2 ∈ cs.map (·.2) := fun q hq => List.mem_map.mpr ⟨q, hq, rfl⟩
  have main : ∀ H : Hp, (∀ q ∈ cs, H q.2 = some (.tbl #[])) → (∀ b, H b = none ∨ b ∈ cs.map (·.2) ∨ ∃ o xs, H b = some (.frz o (.lst xs))) → SqL K H a (ns.map V.int) → HOk P w H s.heap → (∀ b u, H b = some u → b = a ∨ b ∈ cs.map (·.2)) → ((∃ u, H a = some u) → K.lookup a = none) →
      codeAny (model P w) callerA (.call (.ref fa) ⟨[.ref a], []⟩) (fun r s' => r = .ok (.ret (.bool true)) ∧ OldK s.heap s'.heap ∧ s'.os = s.os ∧ AllBare s'.gens) s := by
    intro H tbl only lst ok alone notK
    have free : ∀ b o, s.heap.get? b = some o → (∀ us m, o.data ≠ .seq us m) → o.data ≠ .fields #[] → H b = none := by
      intro b o y n1 n2
      cases q : H b with
      | none => rfl
      | some u =>
        rcases alone b u q with rfl | hb
        · rw [at_] at y
          cases y
          exact absurd rfl (n1 _ _)
        · rw [tabAt b hb] at y
          cases y
          exact absurd rfl n2
    have dictF : ∀ {b : Addr} {o : Obj} {es : Array DictEntry} {ep : Nat}, s.heap.get? b = some o → o.data = .dict es ep → H b = none := by
      intro b o es ep y dd
      refine free b o y (fun us m z => ?_) (fun z => ?_) <;> (rw [dd] at z; cases z)
    have nsk : ∀ {b : Addr} {m : Str → Option Value}, s.heap.Ns b m → (hidT s.heap H).Ns b m := by
      rintro b m ⟨o, es, ep, y, dd, r⟩
      exact ⟨o, es, ep, hidT_get y (dictF y dd), dd, r⟩
    have kinB : K.In (hidT s.heap H) := by
      intro b o y
      refine hidT_get (kin b o y) ?_
      cases q : H b with
      | none => rfl
      | some u =>
        rcases alone b u q with rfl | hb
        · rw [notK ⟨u, q⟩] at y
          cases y
        · obtain ⟨t, ht, rfl⟩ := List.mem_map.mp hb
          rw [aside t ht] at y
          cases y
    obtain ⟨mc, c1, c2⟩ := lim
    have md : Mod K mg (hidT s.heap H) := ⟨kinB, nsk nsm, ⟨mb, nsk nsb, boot⟩, mc, nsk c1, c2⟩
    have TB : ∀ q ∈ cs, TabB (hidT s.heap H) mg q.1 q.2 := by
      intro q hq
      have eq_ := empty q hq
      refine ⟨?_, ?_, ?_⟩
      · obtain ⟨o, us, file, tf, flags, tg, inF, text, tt, y1, yc, y2, y3, rest⟩ := codes q hq
        refine ⟨o, us, file, tf, flags, tg, inF, text, tt, hidT_get y1 (free _ _ y1 (fun _ _ z => ?_) (fun z => ?_)), yc, y2, y3, rest⟩
        · rw [y2] at z
          cases z
        · rw [y2] at z
          cases z
          simp at y3
      · obtain ⟨bm, ob, b1, b2, b3, b4, b5, b6⟩ := module
        have n1 : bm ≠ mainGlobals := by
          rintro rfl
          obtain ⟨o, es, ep, y, dd, _⟩ := nsm
          rw [y] at b3
          cases b3
          rw [dd] at b6
          cases b6
        have n2 : bm ≠ q.2 := by
          intro z
          rw [z, eq_] at b3
          cases b3
          cases b6
        refine ⟨bm, ob, b1, b2, n1, n2, hidT_get b3 (free _ _ b3 (fun _ _ z => ?_) (fun z => ?_)), b4, b5, b6⟩
        · rw [b6] at z
          cases z
        · rw [b6] at z
          cases z
      · intro z
        obtain ⟨o, es, ep, y, dd, _⟩ := nsm
        rw [z, eq_] at y
        cases y
        cases dd
    have noL : ∀ {b : Addr}, b ∉ ([] : List Addr) := fun h => by cases h
    have z : Env0 P w K mg (hidT s.heap H) callerA [] s H := ⟨rfl, md, fun b o y => of_hidT y, Nat.le_of_eq (hidT_size _ _), trivial, fun b h => absurd h noL, ok, .of_eq gens⟩
    have run := (F _ kinB (nsk nsm) TB).goes callerA [] s H ⟨[.ref a], []⟩ [.ref a] [.ref a] _ _ rfl room z (bound s (.ref a)) (.cons rfl .nil) (told H tbl lst)
    refine codeAny_mono run ?_
    intro r s2 out
    cases r with
    | error _ => exact False.elim out
    | ok fl =>
      cases fl with
      | next => exact False.elim out
      | brk => exact False.elim out
      | cont => exact False.elim out
      | ret u =>
        obtain ⟨v, H2, os, bare, un, ok2, r2, rfl⟩ := out
        obtain rfl : u = Value.bool true := r2
        have old : ∀ b o, b ∉ cs.map (·.2) → s.heap.get? b = some o → s2.heap.get? b = some o := by
          intro b o nb y
          cases q : H b with
          | none => exact un.keep b o y q noL noL
          | some u =>
            rcases only b with n | n | ⟨ob, xs, n⟩
            · rw [q] at n
              cases n
            · exact absurd n nb
            · obtain ⟨y1, _⟩ := ok b _ n
              obtain ⟨y2, _⟩ := ok2 b _ (un.frzs b ob _ n)
              rw [y] at y1
              cases y1
              exact y2
        have more : ∀ q ∈ cs, ∃ us : Array Value, s2.heap.get? q.2 = some { cls := .none, data := .fields us } := by
          intro q hq
          obtain ⟨us, y⟩ := un.tbls q.2 #[] (tbl q hq)
          exact ⟨_, ok2 q.2 _ y⟩
        refine ⟨rfl, ⟨fun b o y => ?_, fun b o y => ?_⟩, os, bare⟩
        · by_cases hb : b ∈ cs.map (·.2)
          · obtain ⟨q, hq, rfl⟩ := List.mem_map.mp hb
            obtain ⟨us, hus⟩ := more q hq
            rw [empty q hq] at y
            cases y
            exact .inr (.inl ⟨((codes q hq).tab (empty q hq)).isCodeTable, rfl, #[], us, rfl, by rw [Array.empty_append]; exact hus⟩)
          · exact .inl (old b o hb y)
        · by_cases hb : b ∈ cs.map (·.2)
          · obtain ⟨q, hq, rfl⟩ := List.mem_map.mp hb
            obtain ⟨us, hus⟩ := more q hq
            exact ⟨_, hus⟩
          · exact ⟨o, old b o hb y⟩
  cases hk : K.lookup a with
  | some o =>
    have y := kin a o hk
    rw [at_] at y
    cases y
    refine main (fun b => if b ∈ cs.map (·.2) then some (.tbl #[]) else none) (fun q hq => if_pos (inT q hq)) (fun b => ?_) (.inr ⟨_, vs.toArray, _, hk, rfl, rfl, rfl, by rw [List.size_toArray, ← many]; exact short, by simpa using rv⟩) (fun b u q => ?_) (fun b u q => ?_) ?_
    · by_cases hb : b ∈ cs.map (·.2)
      · exact .inr (.inl hb)
      · exact .inl (if_neg hb)
    · by_cases hb : b ∈ cs.map (·.2)
      · cases (if_pos hb).symm.trans q
        exact tabAt b hb
      · cases (if_neg hb).symm.trans q
    · by_cases hb : b ∈ cs.map (·.2)
      · exact .inr hb
      · cases (if_neg hb).symm.trans q
    · rintro ⟨u, q⟩
      cases (if_neg apart).symm.trans q
  | none =>
    refine main (fun b => if b = a then some (.frz { cls := .type "list", data := .seq vs.toArray } (.lst (ns.map V.int))) else if b ∈ cs.map (·.2) then some (.tbl #[]) else none) (fun q hq => ?_) (fun b => ?_) (.inl (.inr ⟨{ cls := .type "list", data := .seq vs.toArray }, if_pos rfl⟩)) (fun b u q => ?_) (fun b u q => ?_) (fun _ => hk)
    · have ne : ¬ q.2 = a := fun z => apart (z ▸ inT q hq)
      exact (if_neg ne).trans (if_pos (inT q hq))
    · by_cases hb : b = a
      · exact .inr (.inr ⟨_, _, if_pos hb⟩)
      · by_cases h2 : b ∈ cs.map (·.2)
        · exact .inr (.inl h2)
        · exact .inl ((if_neg hb).trans (if_neg h2))
    · by_cases hb : b = a
      · subst hb
        cases (if_pos rfl).symm.trans q
        exact ⟨at_, by rw [List.length_map]; exact short, vs, _, rv, at_⟩
      · have q2 := (if_neg hb).symm.trans q
        by_cases h2 : b ∈ cs.map (·.2)
        · cases (if_pos h2).symm.trans q2
          exact tabAt b h2
        · cases (if_neg h2).symm.trans q2
    · by_cases hb : b = a
      · exact .inl hb
      · by_cases h2 : b ∈ cs.map (·.2)
        · exact .inr h2
        · cases ((if_neg hb).trans (if_neg h2)).symm.trans q
/-- T: whose defs make lambdas, by code object, table and name -/
theorem walk_vowT {l : PySem.W.OpenLaw} {q : Program} {loose : List Str} {XP : (Str → Option Value) → Heap → Prop} {YP : World → Heap → Prop} {d : DefRec} {K : Params → PySem.W.Frag} {sp : List (Addr × Addr) → PySem.W.Frag → Sp}
    (most : l.most = some 63) (dflt : d.params.defaults = []) (room : Room k callerA) (hY : ∀ (w : World) (h : Heap), YP w h → (K w.params).In h)
    (F : ∀ (w : World) (loose' : List Str) (mean : ExcName → Option Value) (mg mb : Str → Option Value) (fa : Addr) (h : Heap), Top q loose' mean mg mb h → (K w.params).In h → h.Ns mainGlobals mg → mg d.name = some (.ref fa) →
      ∃ (fd : FuncData) (cs : List (Addr × Addr)), (∀ (z : Shared) (u : Value), BindsTo z fd ⟨[u], []⟩ [(x, u)]) ∧ (∀ t ∈ cs, h.get? t.2 = some { cls := .none, data := .fields #[] }) ∧ (∀ t ∈ cs, (K w.params).lookup t.2 = none) ∧ (∀ t ∈ cs, PySem.W.CodeHd h t.1 t.2) ∧
        ∀ base : Heap, (K w.params).In base → base.Ns mainGlobals mg → (∀ t ∈ cs, TabB base mg t.1 t.2) → Vow l.prog w (K w.params) mg base k fa fd [x] (sp cs (K w.params)))
    (told : ∀ (cs : List (Addr × Addr)) (K : PySem.W.Frag) (H : Hp) (a : Addr) (ns : List Int), ns.length ≤ 63 → (∀ t ∈ cs, H t.2 = some (.tbl #[])) → SqL K H a (ns.map V.int) → sp cs K [.ref a] H (fun v _ => v = .bl true) E0) :
    PySem.W.WalkO q loose XP YP l.row.toRowW d [] (fun f vs => PySem.call f vs) := by
  refine Att.attach_call most dflt ?_
  intro w s0 s1 mg mb fa o pm cd doc a vs ns G Y ho hd hcd hmg hobj iv short gens
  have kin := hY w _ Y
  obtain ⟨fd, cs, hb, h1, h2, h3, hF⟩ := F w _ _ mg mb fa _ G.T kin G.T.g hmg
  exact end_vowT kin G.T.g G.T.b G.T.builtins G.T.nolimit gens h1 h2 h3 G.T.bmain hobj iv (Nat.le_trans short (by decide)) room hF hb (fun H ht hS => told _ _ H a ns short ht hS)
end
end Kn


namespace Kn
open PySem PySem.Spec PyProof.Rows L2 LamX
/-! ### what the top has written -/
def At (K : PySem.W.Frag) (x : Str) (i : Nat) : Prop := ∃ (f : Addr) (oc : Value) (od an : Option Addr) (sl : Array (Option Value)) (kV dc pm cd ct : Value),
  PySem.W.nsIn K mainGlobals x = some (some (.ref f)) ∧ K.lookup f = some ⟨oc, od, .func (PySem.W.fnOf x x (defArgs (topS i)) (defBody (topS i)) (defScope (topS i)) .none kV dc pm an cd ct), sl⟩ ∧ PySem.W.codeIn K cd x = true ∧ PySem.W.keepIn K (.ref f) = true
theorem at_mk {K : PySem.W.Frag} {x : Str} {i : Nat} {f : Addr} {oc kV dc pm cd ct : Value} {od an : Option Addr} {sl : Array (Option Value)} (a : PySem.W.nsIn K mainGlobals x = some (some (.ref f)))
    (l : K.lookup f = some ⟨oc, od, .func (PySem.W.fnOf x x (defArgs (topS i)) (defBody (topS i)) (defScope (topS i)) .none kV dc pm an cd ct), sl⟩) (c : PySem.W.codeIn K cd x = true) (k : PySem.W.keepIn K (.ref f) = true) : At K x i :=
  ⟨f, oc, od, an, sl, kV, dc, pm, cd, ct, a, l, c, k⟩
/-- a def that makes lambdas: its code object and its table -/
structure AtC (K : PySem.W.Frag) (x : Str) (i : Nat) (c T0 : Addr) : Prop where
  ex : ∃ (f : Addr) (oc : Value) (od an : Option Addr) (sl : Array (Option Value)) (kV dc pm ct : Value),
    PySem.W.nsIn K mainGlobals x = some (some (.ref f)) ∧ K.lookup f = some ⟨oc, od, .func (PySem.W.fnOf x x (defArgs (topS i)) (defBody (topS i)) (defScope (topS i)) .none kV dc pm an (.ref c) ct), sl⟩ ∧ PySem.W.codeIn K (.ref c) x = true ∧ PySem.W.keepIn K (.ref f) = true
  tab : PySem.W.tabIn K x = some (c, T0)
theorem atC_mk {K : PySem.W.Frag} {x : Str} {i : Nat} {f c T0 : Addr} {oc kV dc pm ct oc2 : Value} {od an od2 : Option Addr} {sl sl2 : Array (Option Value)} {us : Array Value} (a : PySem.W.nsIn K mainGlobals x = some (some (.ref f)))
    (l : K.lookup f = some ⟨oc, od, .func (PySem.W.fnOf x x (defArgs (topS i)) (defBody (topS i)) (defScope (topS i)) .none kV dc pm an (.ref c) ct), sl⟩) (e : PySem.W.codeIn K (.ref c) x = true) (k : PySem.W.keepIn K (.ref f) = true)
    (l2 : K.lookup c = some ⟨oc2, od2, .fields us, sl2⟩) (v : us[11]? = some (.ref T0)) : AtC K x i c T0 := by
  refine ⟨⟨f, oc, od, an, sl, kV, dc, pm, ct, a, l, e, k⟩, ?_⟩
  unfold PySem.W.tabIn
  rw [a]
  dsimp only
  rw [l]
  dsimp only [PySem.W.fnOf]
  rw [l2]
  dsimp only
  rw [v]
/-- an error class, asked of from D -/
theorem asked_mk {K : PySem.W.Frag} {mg : Str → Option Value} {h : Heap} {x : Str} {C D : Addr} {b : Bool} (X : K.In h) (G : h.Ns mainGlobals mg) (a : PySem.W.nsIn K mainGlobals x = some (some (.ref C))) (c : PySem.W.isClsIn K C = true) (t : PySem.W.typeIn K (.ref C) = some (.type "type"))
    (s : PySem.W.subIn K (.ref D) (.ref C) = some b) (n : (Value.ref D == Value.ref C) = false ∨ b = true) : Asked K mg x D b := by
  refine ⟨C, PySem.W.mg_of X G a, ?_⟩
  unfold PySem.W.kitOne
  by_cases q : (Value.ref D == Value.ref C) = true
  · rw [if_pos q]
    rcases n with n | n
    · rw [n] at q
      cases q
    · rw [n]
  · rw [if_neg q]
    have c2 : (PySem.W.clsIn K C).isSome = true := c
    have e : ((PySem.W.clsIn K C).isSome && PySem.W.typeIn K (.ref C) == some (.type "type")) = true := by
      rw [c2, t]
      rfl
    show (if ((PySem.W.clsIn K C).isSome && PySem.W.typeIn K (.ref C) == some (.type "type")) = true then PySem.W.subIn K (.ref D) (.ref C) else none) = some b
    rw [if_pos e]
    exact s
theorem tab_out {K : PySem.W.Frag} {h : Heap} {T0 : Addr} (X : K.In h) (n : PySem.W.noTabs K = true) (t : h.get? T0 = some { cls := .none, data := .fields #[] }) : K.lookup T0 = none := by
  cases e : K.lookup T0 with
  | none => rfl
  | some o =>
    have y := X _ _ e
    rw [t] at y
    cases y
    have z := List.all_eq_true.mp n _ (PySem.W.mem_of_lookupK e)
    exact absurd (show false = true from z) Bool.false_ne_true
section
variable {K : PySem.W.Frag} {mg : Str → Option Value} {h : Heap} {x y : Str} {i : Nat} {ps : List Str}
theorem def_of (X : K.In h) (G : h.Ns mainGlobals mg) (t : At K x i)
    (b : ∀ (kV doc pm : Value) (an : Option Addr) (cdv ct : Value) (us : List Value), us.length = ps.length → bindArgs (PySem.W.fnOf x x (defArgs (topS i)) (defBody (topS i)) (defScope (topS i)) .none kV doc pm an cdv ct) ⟨us, []⟩ = pure (ps.zip us)) :
    ∃ f fd, Def K mg x i ps f fd := by
  obtain ⟨f, oc, od, an, sl, kV, dc, pm, cd, ct, a, l, c, k⟩ := t
  have F := fun_mk (st := topS i) l c k
  exact ⟨f, _, F, F.binds b, PySem.W.mg_of X G a⟩
theorem kw_of19 (X : K.In h) (G : h.Ns mainGlobals mg) (t : At K x i)
    (b : ∀ (kV doc pm : Value) (an : Option Addr) (cdv ct : Value) (us : List Value), us.length = (["web", "kind", "name"] : List Str).length → bindArgs (PySem.W.fnOf x x (defArgs (topS i)) (defBody (topS i)) (defScope (topS i)) .none kV doc pm an cdv ct) ⟨us, []⟩ = pure ((["web", "kind", "name"] : List Str).zip us))
    (b1 : ∀ (kV doc pm : Value) (an : Option Addr) (cdv ct u v z : Value), bindArgs (PySem.W.fnOf x x (defArgs (topS i)) (defBody (topS i)) (defScope (topS i)) .none kV doc pm an cdv ct) ⟨[], [(("name" : Str), u), (("kind" : Str), v), (("web" : Str), z)]⟩ = pure [(("web" : Str), z), (("kind" : Str), v), (("name" : Str), u)]) :
    ∃ f fd, Def K mg x i ["web", "kind", "name"] f fd ∧ ∀ (s : Shared) (u v z : Value), BindsTo s fd ⟨[], [(("name" : Str), u), (("kind" : Str), v), (("web" : Str), z)]⟩ [(("web" : Str), z), (("kind" : Str), v), (("name" : Str), u)] := by
  obtain ⟨f, oc, od, an, sl, kV, dc, pm, cd, ct, a, l, c, k⟩ := t
  have F := fun_mk (st := topS i) l c k
  exact ⟨f, _, ⟨F, F.binds b, PySem.W.mg_of X G a⟩, fun s u v z => .of_eq (b1 _ _ _ _ _ _ u v z)⟩
end
section
variable {K : PySem.W.Frag} {mg mb : Str → Option Value} {h : Heap} {l : PySem.W.OpenLaw} {w : World} {fa c T0 D CL gI : Addr} {fdI : FuncData} {d : DefRec} {q : Program} {loose : List Str} {mean : ExcName → Option Value}
theorem all_mk (T : Top q loose mean mg mb h) (X : K.In h) (G : h.Ns mainGlobals mg) (hfa : mg "law" = some (.ref fa)) (find : (recsOf q).find? (fun e => e.name == ("_law_is_right" : Str)) = some d) (nt : PySem.W.noTabs K = true)
    (EM : ErrM K mg D gI fdI) (mL : mg "LetterError" = some (.ref CL)) (ex : PySem.W.exmOne K (.ref D) (.ref CL) = some true)
    (t12 : At K "ascending" 12) (t14 : At K "is_name" 14) (t16 : At K "names_of" 16) (t17 : At K "form_of" 17) (t19 : At K "renamed" 19) (t20 : At K "renamed_row" 20) (t22 : At K "_law_start" 22) (t23 : At K "_law_draw" 23) (t24 : At K "_law_any" 24) (t25 : At K "_law_labels" 25) (t26 : At K "_law_page" 26) (t27 : At K "_law_strange" 27) (t28 : At K "_law_is_label" 28) (t29 : At K "_law_refusal" 29) (t30 : At K "_law_said" 30) (t31 : At K "_law_use" 31) (t32 : At K "_law_odds" 32) (t33 : At K "_law_labels_of" 33) (t34 : At K "_law_is_known" 34) (t35 : At K "_law_late" 35) (t36 : At K "_law_called_due" 36) (t37 : AtC K "_law_is_right" 37 c T0) (t38 : At K "_law_is_turned" 38) (t39 : At K "law" 39) 
    (z1 : PySem.W.nsIn K mainGlobals "len" = some none) (z2 : PySem.W.nsIn K mainGlobals "int" = some none) (z3 : PySem.W.nsIn K mainGlobals "range" = some none) (z4 : PySem.W.nsIn K mainGlobals "sorted" = some none) (z5 : PySem.W.nsIn K mainGlobals "tuple" = some none) (z6 : PySem.W.nsIn K mainGlobals "isinstance" = some none) (z7 : PySem.W.nsIn K mainGlobals "repr" = some none) (z8 : PySem.W.nsIn K mainGlobals "ValueError" = some none) (z9 : PySem.W.nsIn K mainGlobals "set" = some none) (z10 : PySem.W.nsIn K mainGlobals "str" = some none) :
    ∃ (fd : FuncData) (cs : List (Addr × Addr)), (∀ (s : Shared) (u : Value), BindsTo s fd ⟨[u], []⟩ [("_law_script", u)]) ∧ (∀ t ∈ cs, h.get? t.2 = some { cls := .none, data := .fields #[] }) ∧ (∀ t ∈ cs, K.lookup t.2 = none) ∧ (∀ t ∈ cs, PySem.W.CodeHd h t.1 t.2) ∧
      ∀ base : Heap, K.In base → base.Ns mainGlobals mg → (∀ t ∈ cs, TabB base mg t.1 t.2) → Vow l.prog w K mg base 8 fa fd ["_law_script"] (spLaw K (cs.map fun t => (t.2, qRt))) := by
  obtain ⟨f12, d12, D12⟩ := def_of (mg := mg) (ps := ["things"]) X G t12 (fun _ _ _ _ _ _ us hl => match us, hl with | [_], _ => rfl)
  obtain ⟨f14, d14, D14⟩ := def_of (mg := mg) (ps := ["thing"]) X G t14 (fun _ _ _ _ _ _ us hl => match us, hl with | [_], _ => rfl)
  obtain ⟨f16, d16, D16⟩ := def_of (mg := mg) (ps := ["web"]) X G t16 (fun _ _ _ _ _ _ us hl => match us, hl with | [_], _ => rfl)
  obtain ⟨f17, d17, D17⟩ := def_of (mg := mg) (ps := ["web", "kind"]) X G t17 (fun _ _ _ _ _ _ us hl => match us, hl with | [_, _], _ => rfl)
  obtain ⟨f19, d19, D19, k19⟩ := kw_of19 (mg := mg) X G t19 (fun _ _ _ _ _ _ us hl => match us, hl with | [_, _, _], _ => rfl) (fun _ _ _ _ _ _ _ _ _ => rfl)
  obtain ⟨f20, d20, D20⟩ := def_of (mg := mg) (ps := ["row", "old", "name"]) X G t20 (fun _ _ _ _ _ _ us hl => match us, hl with | [_, _, _], _ => rfl)
  obtain ⟨f22, d22, D22⟩ := def_of (mg := mg) (ps := ["_law_script"]) X G t22 (fun _ _ _ _ _ _ us hl => match us, hl with | [_], _ => rfl)
  obtain ⟨f23, d23, D23⟩ := def_of (mg := mg) (ps := ["_law_feed", "_law_many"]) X G t23 (fun _ _ _ _ _ _ us hl => match us, hl with | [_, _], _ => rfl)
  obtain ⟨f24, d24, D24⟩ := def_of (mg := mg) (ps := ["_law_feed", "_law_some"]) X G t24 (fun _ _ _ _ _ _ us hl => match us, hl with | [_, _], _ => rfl)
  obtain ⟨f25, d25, D25⟩ := def_of (mg := mg) (ps := ["_law_feed", "_law_many"]) X G t25 (fun _ _ _ _ _ _ us hl => match us, hl with | [_, _], _ => rfl)
  obtain ⟨f26, d26, D26⟩ := def_of (mg := mg) (ps := ["_law_feed", "_law_most"]) X G t26 (fun _ _ _ _ _ _ us hl => match us, hl with | [_, _], _ => rfl)
  obtain ⟨f27, d27, D27⟩ := def_of (mg := mg) (ps := ["_law_feed"]) X G t27 (fun _ _ _ _ _ _ us hl => match us, hl with | [_], _ => rfl)
  obtain ⟨f28, d28, D28⟩ := def_of (mg := mg) (ps := ["_law_item"]) X G t28 (fun _ _ _ _ _ _ us hl => match us, hl with | [_], _ => rfl)
  obtain ⟨f29, d29, D29⟩ := def_of (mg := mg) (ps := ["_law_error"]) X G t29 (fun _ _ _ _ _ _ us hl => match us, hl with | [_], _ => rfl)
  obtain ⟨f30, d30, D30⟩ := def_of (mg := mg) (ps := ["_law_ask"]) X G t30 (fun _ _ _ _ _ _ us hl => match us, hl with | [_], _ => rfl)
  obtain ⟨f31, d31, D31⟩ := def_of (mg := mg) (ps := ["_law_word"]) X G t31 (fun _ _ _ _ _ _ us hl => match us, hl with | [_], _ => rfl)
  obtain ⟨f32, d32, D32⟩ := def_of (mg := mg) (ps := []) X G t32 (fun _ _ _ _ _ _ us hl => match us, hl with | [], _ => rfl)
  obtain ⟨f33, d33, D33⟩ := def_of (mg := mg) (ps := ["_law_page_here"]) X G t33 (fun _ _ _ _ _ _ us hl => match us, hl with | [_], _ => rfl)
  obtain ⟨f34, d34, D34⟩ := def_of (mg := mg) (ps := ["_law_page_here", "_law_item"]) X G t34 (fun _ _ _ _ _ _ us hl => match us, hl with | [_, _], _ => rfl)
  obtain ⟨f35, d35, D35⟩ := def_of (mg := mg) (ps := ["_law_sign", "_law_label", "_law_one"]) X G t35 (fun _ _ _ _ _ _ us hl => match us, hl with | [_, _, _], _ => rfl)
  obtain ⟨f36, d36, D36⟩ := def_of (mg := mg) (ps := ["_law_page_here", "_law_sign", "_law_label"]) X G t36 (fun _ _ _ _ _ _ us hl => match us, hl with | [_, _, _], _ => rfl)
  obtain ⟨f38, d38, D38⟩ := def_of (mg := mg) (ps := ["_law_page_here", "_law_one", "_law_two"]) X G t38 (fun _ _ _ _ _ _ us hl => match us, hl with | [_, _, _], _ => rfl)
  have ml := PySem.W.mg_none_of X G z1
  have mi := PySem.W.mg_none_of X G z2
  have mr := PySem.W.mg_none_of X G z3
  have mo := PySem.W.mg_none_of X G z4
  have mt := PySem.W.mg_none_of X G z5
  have ms := PySem.W.mg_none_of X G z6
  have mp := PySem.W.mg_none_of X G z7
  have mv := PySem.W.mg_none_of X G z8
  have me := PySem.W.mg_none_of X G z9
  have mz := PySem.W.mg_none_of X G z10
  obtain ⟨code, tab⟩ := PySem.W.tab_of T X find t37.tab
  obtain ⟨fV, oc9, od9, an9, sl9, kV9, dc9, pm9, ct9, a9, l9, e9, kk9⟩ := t37.ex
  have FV : FunC K "_law_is_right" (topS 37) fV (PySem.W.fnOf "_law_is_right" "_law_is_right" (defArgs (topS 37)) (defBody (topS 37)) (defScope (topS 37)) .none kV9 dc9 pm9 an9 (.ref c) ct9) c := ⟨⟨oc9, od9, kV9, dc9, pm9, an9, ct9, sl9, rfl, l9, e9⟩, kk9⟩
  have BV : Binds K (PySem.W.fnOf "_law_is_right" "_law_is_right" (defArgs (topS 37)) (defBody (topS 37)) (defScope (topS 37)) .none kV9 dc9 pm9 an9 (.ref c) ct9) ["_law_page_here", "_law_sign", "_law_label"] [] :=
    (fun_mk (st := topS 37) l9 e9 kk9).binds (fun _ _ _ _ _ _ us hl => match us, hl with | [_, _, _], _ => rfl)
  have mV := PySem.W.mg_of X G a9
  obtain ⟨fL, oc, od, an, sl, kV, dc, pm, cd, ct, aL, lL, cL, kL⟩ := t39
  cases hfa.symm.trans (PySem.W.mg_of X G aL)
  have FL := fun_mk (st := topS 39) lL cL kL
  refine ⟨PySem.W.fnOf "law" "law" (defArgs (topS 39)) (defBody (topS 39)) (defScope (topS 39)) .none kV dc pm an cd ct, [(c, T0)], fun s v => .of_eq rfl, ?_, ?_, ?_, fun base _ _ TB => ?_⟩
  · intro t ht
    rw [List.mem_singleton.mp ht]
    exact tab
  · intro t ht
    rw [List.mem_singleton.mp ht]
    exact tab_out X nt tab
  · intro t ht
    rw [List.mem_singleton.mp ht]
    exact code
  · have TB0 : TabB base mg c T0 := TB (c, T0) (List.mem_singleton.mpr rfl)
    have O12 : FnOk l.prog w K mg base CX0 1 f12 d12 ["things"] (spAsc K) := ok_asc D12.F mt mo me
    have E12 : FnOk l.prog w K mg base CX0 1 f12 d12 ["things"] (spAscE K) := ok_ascE D12.F mt mo me
    have O14 : FnOk l.prog w K mg base CX0 1 f14 d14 ["thing"] (spG K nameB) := ok_name D14.F ml ms mz
    have O16 : FnOk l.prog w K mg base CX0 1 f16 d16 ["web"] (spNames K) := ok_names D16.F mt
    have O17 : FnOk l.prog w K mg base (L2.CX l.prog w) 3 f17 d17 ["web", "kind"] (spBy K D fun _ _ r H Q => Q r H) := ok_form D17.F EM
    have O20 : FnOk l.prog w K mg base CX0 2 f20 d20 ["row", "old", "name"] (spRow K) := ok_row D20.F D12 O12
    have O19 : FnOk l.prog w K mg base (L2.CX l.prog w) 4 f19 d19 ["web", "kind", "name"] (spRen K D) := ok_ren D19.F EM D17 O17 D14 O14 D16 O16 D20 O20 D12 E12
    have O22 : FnOk l.prog w K mg base CX0 1 f22 d22 ["_law_script"] (spStart K) := ok_start D22.F
    have O24 : FnOk l.prog w K mg base CX0 2 f24 d24 ["_law_feed", "_law_some"] (spAny K) := ok_any D24.F D23.F D23.b D23.m mi ml
    have O26 : FnOk l.prog w K mg base CX0 4 f26 d26 ["_law_feed", "_law_most"] (spPg K) := ok_pg D26.F D25.F D25.b D25.m D24.F D24.b D24.m D23.F D23.b D23.m mi ml mr mo mt
    have O27 : FnOk l.prog w K mg base CX0 3 f27 d27 ["_law_feed"] (spStrangeN K) := ok_strangeN D27.F D24.F D24.b D24.m O24
    have O28 : FnOk l.prog w K mg base CX0 1 f28 d28 ["_law_item"] (spG K nameB) := ok_label D28.F ml ms mz
    have O29 : Handed l.prog w K mg base 1 f29 d29 ["_law_error"] (spRef K D) := ok_ref D29.F EM.n ms mv
    have O31 : FnOk l.prog w K mg base CX0 1 f31 d31 ["_law_word"] spUse := ok_use D31.F
    have O32 : FnOk l.prog w K mg base CX0 1 f32 d32 [] (spOdds K) := ok_odds D32.F
    have O33 : FnOk l.prog w K mg base CX0 1 f33 d33 ["_law_page_here"] (spLabOf K) := ok_labOf D33.F
    have O34 : FnOk l.prog w K mg base CX0 2 f34 d34 ["_law_page_here", "_law_item"] (spKnown K) := ok_known D34.F D33 O33 ms mz
    have O35 : FnOk l.prog w K mg base CX0 1 f35 d35 ["_law_sign", "_law_label", "_law_one"] spLate := ok_late D35.F
    have O36 : FnOk l.prog w K mg base CX0 3 f36 d36 ["_law_page_here", "_law_sign", "_law_label"] (spDue K) := ok_due D36.F D34 O34 D31 O31 D28 O28 D35 O35 D33 O33 mo mt
    have O38 : Vow l.prog w K mg base 5 f38 d38 ["_law_page_here", "_law_one", "_law_two"] (spTd K) := ok_td D38.F D19 O19 mo mt mp
    have OV : Vow l.prog w K mg base 7 fV _ ["_law_page_here", "_law_sign", "_law_label"] (spRt K (TT1 T0)) := ok_rt FV TB0 EM mL ex D29 O29 D30 D19 O19 D36 O36 mp
    exact ok_law FL D22 O22 D26 O26 D24 O24 D33 O33 D27 O27 D32 O32 D19 O19 k19 D38 O38 kk9 BV mV OV mr mp
end
end Kn


namespace Kn
open PySem PySem.Spec PyProof.Rows L2 LamX
section
variable {K : PySem.W.Frag} {mg : Str → Option Value} {h : Heap}
theorem cls_mk {D N : Addr} {nm q : Str} {bs bm sub : List Value} {sn : List Str} {ab : Bool} {col : Option Bool} {dd : Option Addr} {k0 k1 k2 k3 k5 : Option Value} (l : K.lookup D = some (excClassObj nm q D N bs bm true sn sub ab col dd k0 k1 k2 k3 k5 "ValueError.__new__")) (r : PySem.HandSPX.refsVE bm = true) :
    ∃ nm q N bs bm sn sub ab col dd k0 k1 k2 k3 k5, K.lookup D = some (excClassObj nm q D N bs bm true sn sub ab col dd k0 k1 k2 k3 k5 "ValueError.__new__") ∧ PySem.HandSPX.refsVE bm = true := ⟨_, _, _, _, _, _, _, _, _, _, _, _, _, _, _, l, r⟩
theorem err_mk {D fI : Addr} {oc kV doc pm cdv ct : Value} {od an : Option Addr} {osl : Array (Option Value)} (X : K.In h) (G : h.Ns mainGlobals mg) (aD : PySem.W.nsIn K mainGlobals "NotUsable" = some (some (.ref D)))
    (cl : ∃ nm q N bs bm sn sub ab col dd k0 k1 k2 k3 k5, K.lookup D = some (excClassObj nm q D N bs bm true sn sub ab col dd k0 k1 k2 k3 k5 "ValueError.__new__") ∧ PySem.HandSPX.refsVE bm = true)
    (sa : PySem.W.findIn K (.ref D) "__setattr__" = some (some (.builtin "object.__setattr__"))) (ga : PySem.W.findIn K (.ref D) "__getattribute__" = some (some (.builtin "BaseException.__getattribute__"))) (gg : PySem.W.findIn K (.ref D) "__getattr__" = some none)
    (ha : PySem.W.findIn K (.ref D) "__class__" = some (some (.builtin "object.__class__"))) (hn : PySem.W.specialIn K (.builtin "object.__class__") "__get__" = some (some (.builtin "getset_descriptor.__get__"))) (ht : PySem.W.takesIn K (.builtin "object.__class__") = some true) (hm : PySem.W.mroIn K D (.type "object") = some true)
    (noW : PySem.W.findIn K (.ref D) "word" = some none) (noA : PySem.W.findIn K (.ref D) "at" = some none) (i : PySem.W.findIn K (.ref D) "__init__" = some (some (.ref fI))) (tI : PySem.W.typeIn K (.ref fI) = some (.type "function"))
    (lI : K.lookup fI = some ⟨oc, od, .func (PySem.W.fnOf "__init__" "NotUsable.__init__" (defArgs initS) (defBody initS) (defScope initS) .none kV doc pm an cdv ct), osl⟩) (cI : PySem.W.codeIn K cdv "NotUsable.__init__" = true) (kI : PySem.W.keepIn K (.ref fI) = true)
    (kC : PySem.W.keepIn K (.ref D) = true) (exC : PySem.W.subIn K (.ref D) (.type "BaseException") = some true) (tyC : PySem.W.typeIn K (.ref D) = some (.type "type")) (hdC : PySem.W.hasDictIn K D = true) (isC : PySem.W.isClsIn K D = true) (sV : PySem.W.subIn K (.ref D) (.type "ValueError") = some true) (sD : PySem.W.subIn K (.ref D) (.ref D) = some true)
    (p1 : Asked K mg "PaperError" D false) (p2 : Asked K mg "WebError" D true) (p3 : Asked K mg "LiveError" D false) (p4 : Asked K mg "TextError" D false) (p6 : Asked K mg "Missed" D false) :
    ErrM K mg D fI (PySem.W.fnOf "__init__" "NotUsable.__init__" (defArgs initS) (defBody initS) (defScope initS) .none kV doc pm an cdv ct) := by
  have FI : Fun K "__init__" "NotUsable.__init__" initS fI (PySem.W.fnOf "__init__" "NotUsable.__init__" (defArgs initS) (defBody initS) (defScope initS) .none kV doc pm an cdv ct) := fun_mk (st := initS) lI cI kI
  refine ⟨⟨⟨isC, ga, gg, exC, ha, hn, ht, hm⟩, ⟨ga, gg, exC, hdC⟩, noW, noA, p1, p2, p3, p4, asked_mk X G aD isC tyC sD (.inr rfl), p6, ?_⟩, ⟨cl, sa, exC, tyC, kC⟩, FI, FI.binds (fun _ _ _ _ _ _ us hl => match us, hl with | [_, _, _], _ => rfl), i, tI, PySem.W.mg_of X G aD⟩
  show (if (Value.ref D == Value.type "ValueError") = true then some true else if PySem.W.kitMeta "ValueError" = true then PySem.W.subIn K (.ref D) (.type "ValueError") else none) = some true
  rw [if_neg (show ¬ (Value.ref D == Value.type "ValueError") = true from fun z => by cases beq_iff_eq.mp z), if_pos (by decide +kernel)]
  exact sV
end
end Kn
open PySem PySem.W PyProof.Rows
set_option maxHeartbeats 0 in
theorem PySem.Challenge.cw_firstletter_k08_whole_kinds_renamed_holds : PySem.Challenge.rw_firstletter_k08_whole_kinds_renamed.Holds := by
  w_on; o_law; k_head; (case hw => w_witness2)
  k_fill
  refine Kn.walk_vowT (l := PySem.Challenge.rw_firstletter_k08_whole_kinds_renamed) (k := 8) (x := "_law_script") (sp := fun cs K => Kn.spLaw K (cs.map fun t => (t.2, Kn.qRt))) rfl rfl ⟨rfl, by decide, by decide⟩ (fun w h Y => PySem.W.km_in_of Y) ?F (fun cs _ _ a ns hl ht hS => ⟨a, ns, rfl, hS, hl, (fun p hp => ?_), fun _ => rfl⟩)
  case hc =>
    obtain ⟨t, h1, rfl⟩ := List.mem_map.mp hp
    exact LamX.TabS.nil (ht t h1)
  case F =>
    intro w loose' mean mg mb fa h T KX G hmg
    refine' Kn.all_mk T KX G hmg ?find ?nt ?EM ?mL ?ex ?t12 ?t14 ?t16 ?t17 ?t19 ?t20 ?t22 ?t23 ?t24 ?t25 ?t26 ?t27 ?t28 ?t29 ?t30 ?t31 ?t32 ?t33 ?t34 ?t35 ?t36 ?t37 ?t38 ?t39 ?z1 ?z2 ?z3 ?z4 ?z5 ?z6 ?z7 ?z8 ?z9 ?z10
    (case z1 => k_is); (case z2 => k_is); (case z3 => k_is); (case z4 => k_is); (case z5 => k_is); (case z6 => k_is); (case z7 => k_is); (case z8 => k_is); (case z9 => k_is); (case z10 => k_is)
    (case find => rfl); (case nt => kernel_rfl)
    case EM =>
      refine' Kn.err_mk KX G ?aD ?cl ?sa ?ga ?gg ?ha ?hn ?ht ?hm ?noW ?noA ?i ?tI ?lI ?cI ?kI ?kC ?exC ?tyC ?hdC ?isC ?sV ?sD ?p1 ?p2 ?p3 ?p4 ?p6
      (case aD => k_is)
      (case cl => (refine' Kn.cls_mk ?x ?y; (case x => k_is); (case y => decide +kernel)))
      (case sa => k_is); (case ga => k_is); (case gg => k_is); (case ha => k_is); (case hn => k_is); (case ht => k_is); (case hm => k_is); (case noW => k_is); (case noA => k_is); (case i => k_is); (case tI => k_is); (case lI => k_is); (case cI => k_is); (case kI => k_is)
      (case kC => k_is); (case exC => k_is); (case tyC => k_is); (case hdC => k_is); (case isC => k_is); (case sV => k_is); (case sD => k_is)
      (case p2 => (refine' Kn.asked_mk KX G ?a ?c ?t ?s (.inr rfl); (case a => k_is); (case c => k_is); (case t => k_is); (case s => k_is)))
      all_goals
        refine' Kn.asked_mk KX G ?a ?c ?t ?s (.inl ?n)
        (case a => k_is); (case c => k_is); (case t => k_is); (case s => k_is); (case n => decide +kernel)
    case mL => (refine' PySem.W.mg_of KX G ?a; (case a => k_is))
    case ex => (refine' PySem.W.exm_ref ?a ?b ?c ?d; (case a => k_is); (case b => k_is); (case c => k_is); (case d => k_is))
    case t37 =>
      refine' Kn.atC_mk ?a ?l ?e ?k ?l2 ?v
      (case a => k_is); (case l => k_is); (case e => k_is); (case k => k_is); (case l2 => k_is); (case v => rfl)
    all_goals
      refine' Kn.at_mk ?a ?l ?c ?k
      (case a => k_is); (case l => k_is); (case c => k_is); (case k => k_is)
