import PyProof.Rows.All
import Wide.All
import OpenK.AllK
import Wide.FinOn
import HandS.ForMost
import HandS.Star
import HandS.FStr
import HandS.RaiseMore
import PyProof.ReprRoads
import PyProof.StrLawsRepr
import HandS.TupAny
import HandS.IsInst
import PyProof.ReprLen
import HandS.Walk
import PyProof.Draws
import KE.GoesMore
import PyProof.EnumMake
import HandS.Deep
import HandS.StrMore
import HandS.DictComp
import KE.DataCmp
import HandS.HotCalls
import HandS.ExcIs
import HandS.ExcField
import HandS.ExcInit
import HandS.Lambda
import HandS.WordsExc
import KE.KExcIs
import PyProof.Rows.CountFlat
import HandS.SetFor
import HandS.TryOnly
import HandS.ExcOwn
import HandS.TupSets
import KE.KeyNested
import KE.KDictKeyed
import HandS.Strs
import HandS.More
import KE.SortData
import HandS.Steps
import HandS.Replace
import HandS.TupLe
import PyProof.SliceStr2
import PyProof.Rows.StrStrike
import KE.KDictCopyH
import HandS.Conv
import KE.DatumOrd
import HandS.Zip
import HandS.TupMul
import HandS.List
import HandS.Comp
import HandS.Defaults
import HandS.DictTup
import KE.KDictDisplayH
import HandS.SortInts
import PySem.Challenge.RW_firstletter_k49_whole_best_marks_in_runs
set_option Elab.async false
set_option linter.all false
set_option maxRecDepth 100000
set_option maxHeartbeats 8000000
/-! Kn: defs that show data by repr. A promise that holds where nothing is being shown yet (Vow), its body, its call, the law's end. -/
namespace Kn
open PySem PySem.Spec PyProof.Rows L2

section
variable (P : Program) (w : World) (K : PySem.W.Frag) (mg : Str → Option Value) (base : Heap)
structure Vow (k : Nat) (f : Addr) (fd : FuncData) (ps : List Str) (sp : Sp) : Prop where
  many : ∀ vs H Q E, sp vs H Q E → vs.length = ps.length
  goes : ∀ (A : Around) (fr : List Env) (s : Shared) (H : Hp) (g : Args) (us : List Value) (vs : List V) (Q : VK) (E : XK), A.guards = some [] → Room k A →
    Env0 P w K mg base A fr s H → BindsTo s fd g (ps.zip us) → Vals vs us → sp vs H Q E → codeAny (model P w) A (.call (.ref f) g) (CR CX0 fr P w H s Q E) s
end
section
variable {P : Program} {w : World} {K : PySem.W.Frag} {mg : Str → Option Value} {base : Heap} {k : Nat} {f : Addr} {fd : FuncData} {ps N : List Str} {sp : Sp} {x qual : Str} {st : Stmt}

theorem Vow.body (F : Fun K x qual st f fd) (S : FnScope N ps (defScope st)) (many : ∀ vs H Q E, sp vs H Q E → vs.length = ps.length)
    (hb : ∀ (cdv : Value) (A : Around) (fr : List Env) (s : Shared) (H : Hp) (vs : List V) (Q : VK) (E : XK), A.guards = some [] → Room k (A.deeper (envOfC qual (defScope st) s.heap.objs.size f cdv)) → sp vs H Q E →
      ∃ t, PSs (cxOf CX0 P w K mg base N qual (defScope st) f cdv A fr s H E).nox (defBody st) t ∧ t { nx := fun _ H' => Q .non H', rt := Q } (start N vs) H) :
    Vow P w K mg base (k + 1) f fd ps sp := by
  obtain ⟨oc, od, kV, doc, pm, an, cdv, ct, osl, rfl, look, cdOk⟩ := F.ex
  refine ⟨many, fun A fr s H g us vs Q E hg room z bound rv told => ?_⟩
  have held : ∀ b o, base.get? b = some o → s.heap.get? b = some o := fun b o y => (z.bs b o y).1
  have KS : K.In s.heap := z.mod.kin.keeps held
  have parL : ∀ y ∈ ps.zip us, (defScope st).names.lookup y.1 = some .local ∨ ((defScope st).names.lookup y.1 = some .cell ∧ ((cellsFrom (s.heap.objs.size + 1) (defScope st).names []).lookup y.1).isSome = true) := by
    rintro ⟨n, v⟩ hy
    cases S.par n (List.of_mem_zip hy).1 with
    | inl q => exact .inl q
    | inr q => exact .inr ⟨q, PySem.W.cellsFrom_some _ _ _ (.inl q)⟩
  refine codeAny_call_function room.depth (KS _ _ look) rfl S.co S.gen rfl (PySem.W.codeRec_of KS cdOk) (bound _ _ _ _ ?_)
  refine wpAny_newFunctionEnv_cells S.kind parL ?_
  rintro env rfl s1 y
  refine ⟨(z.mod.nolimit.keeps held).keeps y.toInCall.keep, codeAny_func ?_⟩
  obtain ⟨t, ht, ends⟩ := hb cdv A fr s H vs Q E hg (room.deeper _) told
  have I := inv_start (CX := CX0) (P := P) (mg := mg) (E := E) S room.hd z (many _ _ _ _ told) rv y
  refine wpAny_mono (ht.nox.run [] s1 (start N vs) H _ I ends) ?_ (fun _ _ q => q)
  intro fl s2 hs
  cases fl with
  | ret u => obtain ⟨v, σ2, H2, J, r2, q⟩ := hs; exact ⟨v, H2, J.os, J.bare, J.base, J.hok, r2, q⟩
  | next => obtain ⟨σ2, H2, J, q⟩ := hs; exact ⟨V.non, H2, J.os, J.bare, J.base, J.hok, rfl, q⟩
  | brk => obtain ⟨_, _, _, q⟩ := hs; exact q.elim
  | cont => obtain ⟨_, _, _, q⟩ := hs; exact q.elim

theorem Vow.of (F : FnOk P w K mg base CX0 k f fd ps sp) : Vow P w K mg base k f fd ps sp :=
  ⟨F.len, fun A fr s H g us vs Q E _ room z bound rv told => F.run A fr s H g us vs Q E room z bound rv told⟩
end

section
variable {X : Cx} {k : Nat} {f : Addr} {fd : FuncData} {ps : List Str} {sp : Sp} {x : Str} {p pos : Pos} {e : Expr} {es : List Expr} {t : TA}
/-- f(e, ..) of a def that vows -/
theorem pe_vow (F : Vow X.prog X.w X.K X.mg X.base k f fd ps sp) (hq : X.A.guards = some []) (hr : Room k X.A) (hg : Gl X x) (hm : X.mg x = some (.ref f)) (hk : PySem.W.keepIn X.K (.ref f) = true) (hb : Binds X.K fd ps [])
    (ha : PA X (e :: es) t) (hdb : (x == ("__debug__" : Str)) = false := by decide) (he : starEach (e :: es) X.env = (false, eval e X.env) :: starEach es X.env := by rfl) (hpl : (backTo pos (starEach es X.env)).any (·.1) = false := by rfl) :
    PE X (.Call (.Name x p) (e :: es) [] pos) (tCall sp [] E0 t) := by
  refine ⟨fun pins s σ H Q I told => wpAny_Call_Name_kw (ld_glob I hg hm ?_ hdb)⟩
  refine PySem.W.callWith_K (h₀ := X.base) I.ok.mod.kin hk (thn (ha.run pos pins s σ H _ I told) ?_) he hpl
  rintro us s1 ⟨vs, H1, I1, rv, q⟩
  refine ⟨I1.kIn, ?_⟩
  have q : sp (vs ++ []) H1 Q E0 := q
  rw [List.append_nil] at q
  have hl : (us ++ []).length = ps.length := by rw [List.append_nil, ← rv.length]; exact F.many _ _ _ _ q
  have hb1 := hb s1 us I1.kIn hl
  rw [List.append_nil] at hb1
  refine wpAny_call (codeAny_mono (F.goes X.A X.stack s1 H1 ⟨us, []⟩ us vs Q E0 hq hr I1.env0 hb1 rv q) ?_)
  intro r s2 out
  cases r with
  | error _ => exact False.elim out
  | ok fl =>
    cases fl with
    | ret u => exact I1.after out
    | next => exact False.elim out
    | brk => exact False.elim out
    | cont => exact False.elim out

/-- repr(x) of data -/
def rShow (K : PySem.W.Frag) : List V → Hp → VK → Prop := fun xs H Q => ∃ (a : Addr) (d : PyData), xs = [.ref a] ∧ Dp K H (.ref a) d ∧ d.showable = true ∧ d.hasDict = false ∧ d.depth ≤ 20 ∧ d.shown.length ≤ sizeLine ∧ Q (.str d.shown) H
theorem call_show (hq : X.A.guards = some []) (hu : X.A.units + 64 < cLine) : CallR X (.builtin "repr") (rShow X.K) := by
  rintro pins s σ H xs us Q I rv ⟨a, d, rfl, hd, h1, h2, h3, h4, q⟩
  obtain ⟨u, rfl, rfl⟩ := vals1 rv
  obtain ⟨as, rd⟩ := Dp.reads I d _ _ hd rfl
  exact repr_of_reads' rd h1 (PyData.noDict_hsm h2) hq (by omega) (fun _ _ y => y) (fun h' u tk kp => ⟨.str d.shown, H, I.kept kp, ⟨_, rfl⟩, q⟩) h4
end

/-! the law's end -/
section
variable {P : Program} {w : World} {K : PySem.W.Frag} {mg mb : Str → Option Value} {k : Nat} {fa a : Addr} {fd : FuncData} {x : Str} {sp : Sp} {s : Shared} {vs : List Value} {ns : List Int}
theorem end_vow (kin : K.In s.heap) (nsm : s.heap.Ns mainGlobals mg) (nsb : s.heap.Ns builtinsNs mb) (boot : ∀ y : Str, y ≠ "__name__" → mb y = bootBuiltins y) (lim : s.heap.NoLimit) (gens : s.gens = #[])
    (at_ : s.heap.get? a = some { cls := .type "list", data := .seq vs.toArray }) (iv : IntsAre vs ns) (short : ns.length ≤ sizeLine) (room : Room k callerA)
    (F : ∀ base : Heap, K.In base → base.Ns mainGlobals mg → Vow P w K mg base k fa fd [x] sp) (bound : ∀ (z : Shared) (u : Value), BindsTo z fd ⟨[u], []⟩ [(x, u)])
    (told : ∀ H : Hp, Only H → SqL K H a (ns.map V.int) → sp [.ref a] H (fun v _ => v = .bl true) E0) :
    codeAny (model P w) callerA (.call (.ref fa) ⟨[.ref a], []⟩) (fun r s' => r = .ok (.ret (.bool true)) ∧ OldK s.heap s'.heap ∧ s'.os = s.os ∧ AllBare s'.gens) s := by
  have many : ns.length = vs.length := by rw [iv.length]
  have main : ∀ H : Hp, Only H → SqL K H a (ns.map V.int) → HOk P w H s.heap → (∀ b u, H b = some u → b = a ∧ K.lookup a = none) →
      codeAny (model P w) callerA (.call (.ref fa) ⟨[.ref a], []⟩) (fun r s' => r = .ok (.ret (.bool true)) ∧ OldK s.heap s'.heap ∧ s'.os = s.os ∧ AllBare s'.gens) s := by
    intro H only lst ok alone
    have free : ∀ b o, s.heap.get? b = some o → o ≠ { cls := .type "list", data := .seq vs.toArray } → H b = none := by
      intro b o y ne
      cases q : H b with
      | none => rfl
      | some u =>
        obtain ⟨rfl, _⟩ := alone b u q
        rw [at_] at y
        exact absurd (Option.some.inj y).symm ne
    have nsk : ∀ {b : Addr} {m : Str → Option Value}, s.heap.Ns b m → (hidT s.heap H).Ns b m := by
      rintro b m ⟨o, es, ep, y, dd, r⟩
      refine ⟨o, es, ep, hidT_get y (free b o y ?_), dd, r⟩
      rintro rfl
      have dd2 : Data.seq vs.toArray _ = Data.dict es ep := dd
      cases dd2
    have kinB : K.In (hidT s.heap H) := by
      intro b o y
      refine hidT_get (kin b o y) ?_
      cases q : H b with
      | none => rfl
      | some u =>
        obtain ⟨rfl, no⟩ := alone b u q
        rw [no] at y
        cases y
    obtain ⟨mc, c1, c2⟩ := lim
    have md : Mod K mg (hidT s.heap H) := ⟨kinB, nsk nsm, ⟨mb, nsk nsb, boot⟩, mc, nsk c1, c2⟩
    have noL : ∀ {b : Addr}, b ∉ ([] : List Addr) := fun h => by cases h
    have z : Env0 P w K mg (hidT s.heap H) callerA [] s H := ⟨rfl, md, fun b o y => of_hidT y, Nat.le_of_eq (hidT_size _ _), trivial, fun b h => absurd h noL, ok, .of_eq gens⟩
    have run := (F _ kinB (nsk nsm)).goes callerA [] s H ⟨[.ref a], []⟩ [.ref a] [.ref a] _ _ rfl room z (bound s (.ref a)) (.cons rfl .nil) (told H only lst)
    refine codeAny_mono run ?_
    intro r s2 out
    cases r with
    | error _ => exact False.elim out
    | ok fl =>
      cases fl with
      | next => exact False.elim out
      | brk => exact False.elim out
      | cont => exact False.elim out
      | ret u =>
        obtain ⟨v, H2, os, bare, un, ok2, r2, rfl⟩ := out
        obtain rfl : u = Value.bool true := r2
        refine ⟨rfl, OldK.of_keep (fun b o y => ?_), os, bare⟩
        cases q : H b with
        | none => exact un.keep b o y q noL noL
        | some u =>
          rcases only b with n | ⟨ob, xs, n⟩
          · rw [q] at n
            cases n
          · obtain ⟨y1, _⟩ := ok b _ n
            obtain ⟨y2, _⟩ := ok2 b _ (un.frzs b ob _ n)
            rw [y] at y1
            cases y1
            exact y2
  have rv : Vals (ns.map V.int) vs := vals_ints iv
  cases hk : K.lookup a with
  | some o =>
    have y := kin a o hk
    rw [at_] at y
    cases y
    refine main (fun _ => none) (fun _ => .inl rfl) (.inr ⟨_, vs.toArray, _, hk, rfl, rfl, rfl, by rw [List.size_toArray, ← many]; exact short, by simpa using rv⟩) (fun b u q => ?_) (fun b u q => ?_)
    · have q : (none : Option HO) = some u := q
      cases q
    · have q : (none : Option HO) = some u := q
      cases q
  | none =>
    refine main (fun b => if b = a then some (.frz { cls := .type "list", data := .seq vs.toArray } (.lst (ns.map V.int))) else none) (fun b => ?_) (.inl (.inr ⟨{ cls := .type "list", data := .seq vs.toArray }, if_pos rfl⟩)) (fun b u q => ?_) (fun b u q => ?_)
    · by_cases hb : b = a
      · exact .inr ⟨_, _, if_pos hb⟩
      · exact .inl (if_neg hb)
    · by_cases hb : b = a
      · subst hb
        cases (if_pos rfl).symm.trans q
        exact ⟨at_, by rw [List.length_map]; exact short, vs, _, rv, at_⟩
      · cases (if_neg hb).symm.trans q
    · by_cases hb : b = a
      · exact ⟨hb, hk⟩
      · cases (if_neg hb).symm.trans q

theorem walk_vow {l : PySem.W.OpenLaw} {q : Program} {loose : List Str} {XP : (Str → Option Value) → Heap → Prop} {YP : World → Heap → Prop} {d : DefRec} {K : Params → PySem.W.Frag} {sp : PySem.W.Frag → Sp}
    (most : l.most = some 63) (dflt : d.params.defaults = []) (room : Room k callerA) (hY : ∀ (w : World) (h : Heap), YP w h → (K w.params).In h)
    (F : ∀ (w : World) (mg : Str → Option Value) (fa : Addr) (h : Heap), (K w.params).In h → h.Ns mainGlobals mg → mg d.name = some (.ref fa) →
      ∃ fd : FuncData, (∀ (z : Shared) (u : Value), BindsTo z fd ⟨[u], []⟩ [(x, u)]) ∧ ∀ base : Heap, (K w.params).In base → base.Ns mainGlobals mg → Vow l.prog w (K w.params) mg base k fa fd [x] (sp (K w.params)))
    (told : ∀ (K : PySem.W.Frag) (H : Hp) (a : Addr) (ns : List Int), ns.length ≤ 63 → Only H → SqL K H a (ns.map V.int) → sp K [.ref a] H (fun v _ => v = .bl true) E0) :
    PySem.W.WalkO q loose XP YP l.row.toRowW d [] (fun f vs => PySem.call f vs) := by
  refine Att.attach_call most dflt ?_
  intro w s0 s1 mg mb fa o pm cd doc a vs ns G Y ho hd hcd hmg hobj iv short gens
  have kin := hY w _ Y
  obtain ⟨fd, hb, hF⟩ := F w mg fa _ kin G.T.g hmg
  exact end_vow kin G.T.g G.T.b G.T.builtins G.T.nolimit gens hobj iv (Nat.le_trans short (by decide)) room hF hb (fun H only lst => told _ H a ns short only lst)
end
end Kn


/-! Kn: texts: lengths and signs; the pure defs of the program and of the law. -/
namespace Kn
open PySem PySem.Spec PyProof.Rows L2

/-! ### texts -/
def Fit (n : Nat) (x : Str) : Prop := x.length ≤ n ∧ ∀ c ∈ x.cps.toList, c < 16 ^ 8
theorem Fit.mono {n m : Nat} {x : Str} (h : Fit n x) (l : n ≤ m) : Fit m x := ⟨Nat.le_trans h.1 l, h.2⟩
theorem len_app (a b : Str) : (a ++ b).length = a.length + b.length := by
  show (a.cps ++ b.cps).size = _
  rw [Array.size_append]
  rfl
theorem Fit.app {n m : Nat} {a b : Str} (h : Fit n a) (k : Fit m b) : Fit (n + m) (a ++ b) := by
  refine ⟨by rw [len_app]; have := h.1; have := k.1; omega, fun c hc => ?_⟩
  have hc : c ∈ (a.cps ++ b.cps).toList := hc
  rw [Array.toList_append, List.mem_append] at hc
  exact hc.elim (h.2 c) (k.2 c)
theorem app_assoc (a b c : Str) : a ++ b ++ c = a ++ (b ++ c) := by
  show Str.mk (a.cps ++ b.cps ++ c.cps) = Str.mk (a.cps ++ (b.cps ++ c.cps))
  rw [Array.append_assoc]
theorem nil_app (a : Str) : Str.empty ++ a = a := by
  show Str.mk (#[] ++ a.cps) = a
  rw [Array.empty_append]
theorem Fit.join {n m : Nat} {y : Str} (hy : Fit m y) : ∀ (xs : List Str), (∀ x ∈ xs, Fit n x) → Fit (xs.length * (n + m)) (Str.join y xs)
  | [], _ => ⟨Nat.zero_le _, fun c hc => by cases hc⟩
  | [x], h => (h x (List.mem_cons_self ..)).mono (by rw [List.length_singleton]; omega)
  | x :: z :: r, h => by
    have ih := Fit.join hy (z :: r) fun v hv => h v (List.mem_cons_of_mem _ hv)
    have q := ((h x (List.mem_cons_self ..)).app hy).app ih
    refine q.mono ?_
    simp only [List.length_cons, Nat.add_mul, Nat.one_mul]
    omega
theorem fit_string (s : String) : ∀ c ∈ (Str.ofString s).cps.toList, c < 16 ^ 8 := by
  intro c hc
  rw [Str.ofString_eq_toList] at hc
  have hc : c ∈ s.toList.map Char.toNat := by simpa using hc
  obtain ⟨d, _, rfl⟩ := List.mem_map.mp hc
  have h : d.toNat < 1114112 := by
    have v := d.valid
    have e : d.toNat = d.val.toNat := rfl
    rcases v with v | ⟨_, v⟩
    · rw [e]; have v : d.val.toNat < 55296 := v; omega
    · rw [e]; exact v
  exact Nat.lt_trans h (by decide)
theorem len_string (s : String) : (Str.ofString s).length = s.toList.length := by
  rw [Str.ofString_eq_toList]
  show ((s.toList.map Char.toNat).toArray).size = _
  rw [List.size_toArray, List.length_map]

/-! ### comprehensions that change nothing -/
theorem tupS {K : PySem.W.Frag} {H H' : Hp} {a : Addr} {xs : List V} (e : Same H H') (h : SqT K H a xs) : SqT K H' a xs := by
  rcases h with (h | ⟨o, h⟩) | h
  · exact .inl (.inl (e _ _ h))
  · exact .inl (.inr ⟨o, e _ _ h⟩)
  · exact .inr h
theorem same_new {H : Hp} {p : Addr} {o : HO} (h : H p = none) : Same H (upd H p o) := fun b x e => by
  rw [upd_ne (ne_of_none e h)]
  exact e
theorem putS {H H' : Hp} {p : Addr} {o : HO} (e : Same H H') (h : H p = none) : Same H (upd H' p o) := fun b x q => by
  rw [upd_ne (ne_of_none q h)]
  exact e _ _ q
theorem small' {n : Nat} (h : n ≤ 1000) : n < sizeLine := Nat.lt_of_le_of_lt h (by decide)
theorem take_next {ys : List V} {i : Nat} {y : V} (h : ys[i]? = some y) : ys.take i ++ [y] = ys.take (i + 1) := by
  rw [List.take_add_one, h]
  rfl
theorem lc_mapT {K : PySem.W.Frag} {a : Addr} {xs : List V} {slot : Nat} {te tl : TE} {vs : List Nat} {σ : L2.St} {H : Hp} {Q : VK} (ys : List V) (hl : ys.length = xs.length) (hs : xs.length ≤ 1000) (hT : SqT K H a xs)
    (htl : ∀ R : VK, R (.ref a) H → tl σ H R) (w : ∀ v, wipe ((wipe σ vs).set slot (some v)) vs = wipe σ vs)
    (turn : ∀ (i : Nat) (x y : V) (G : Hp) (R : VK), xs[i]? = some x → ys[i]? = some y → Same H G → (∀ G', Same G G' → R y G') → te ((wipe σ vs).set slot (some x)) G R)
    (done : ∀ (D : Addr) (G : Hp), H D = none → Same H G → G D = some (.lst ys) → Q (.ref D) G) : tLc (iTup K tl) (gName slot) tYes te vs σ H Q := by
  refine htl _ ⟨a, rfl, ⟨xs, hT⟩, fun D nD => ?_⟩
  refine lc_tup (K := K) (a := a) (xs := xs) (fun i G => Same H G ∧ G D = some (.lst (ys.take i))) ⟨same_new nD, upd_same⟩ (fun i G _ h => tupS h.1 hT) ?_ ?_
  · rintro i x G hx ⟨sm, hD⟩
    have hi : i < xs.length := (List.getElem?_eq_some_iff.mp hx).1
    have hy : ys[i]? = some (ys[i]'(by omega)) := List.getElem?_eq_getElem (by omega)
    refine ⟨w x, ?_⟩
    simp only [tYes, ↓reduceIte]
    refine turn i x _ G _ hx hy sm fun G' s' => ⟨ys.take i, s' _ _ hD, ?_, ?_, ?_⟩
    · rw [List.length_take]
      exact small' (by omega)
    · exact putS (sm.trans s') nD
    · rw [upd_same, take_next hy]
  · rintro G ⟨sm, hD⟩
    refine done D G nD sm ?_
    rw [hD, List.take_of_length_le (by omega)]
theorem lc_mapL {K : PySem.W.Frag} {a : Addr} {xs : List V} {slot : Nat} {te tl : TE} {vs : List Nat} {σ : L2.St} {H : Hp} {Q : VK} (ys : List V) (hl : ys.length = xs.length) (hs : xs.length ≤ 1000) (hT : SqL K H a xs)
    (htl : ∀ R : VK, R (.ref a) H → tl σ H R) (w : ∀ v, wipe ((wipe σ vs).set slot (some v)) vs = wipe σ vs)
    (turn : ∀ (i : Nat) (x y : V) (G : Hp) (R : VK), xs[i]? = some x → ys[i]? = some y → Same H G → (∀ G', Same G G' → R y G') → te ((wipe σ vs).set slot (some x)) G R)
    (done : ∀ (D : Addr) (G : Hp), H D = none → Same H G → G D = some (.lst ys) → Q (.ref D) G) : tLc (iList K tl) (gName slot) tYes te vs σ H Q := by
  refine htl _ ⟨a, rfl, ⟨xs, hT⟩, fun D nD => ?_⟩
  refine lc_list (K := K) (a := a) (xs := xs) (fun i G => Same H G ∧ G D = some (.lst (ys.take i))) ⟨same_new nD, upd_same⟩ (fun i G _ h => h.1.seq hT) ?_ ?_
  · rintro i x G hx ⟨sm, hD⟩
    have hi : i < xs.length := (List.getElem?_eq_some_iff.mp hx).1
    have hy : ys[i]? = some (ys[i]'(by omega)) := List.getElem?_eq_getElem (by omega)
    refine ⟨w x, ?_⟩
    simp only [tYes, ↓reduceIte]
    refine turn i x _ G _ hx hy sm fun G' s' => ⟨ys.take i, s' _ _ hD, ?_, ?_, ?_⟩
    · rw [List.length_take]
      exact small' (by omega)
    · exact putS (sm.trans s') nD
    · rw [upd_same, take_next hy]
  · rintro G ⟨sm, hD⟩
    refine done D G nD sm ?_
    rw [hD, List.take_of_length_le (by omega)]

/-! ### str of an int or a text -/
def shV : V → Str
  | .int i => Str.ofString (toString i)
  | .str z => z
  | _ => Str.empty
def FlatV : V → Prop
  | .int i => i.natAbs.log2 < 1920
  | .str _ => True
  | _ => False
theorem call_str_flat {X : Cx} : CallR X (.type "str") (fun xs H Q => ∃ v, xs = [v] ∧ FlatV v ∧ Q (.str (shV v)) H) := by
  rintro pins s σ H xs us Q I rv ⟨v, rfl, hv, q⟩
  cases v with
  | int i => exact call_str_int pins s σ H _ us Q I rv ⟨i, rfl, hv, q⟩
  | str z => exact SkE.call_str_str pins s σ H _ us Q I rv ⟨z, rfl, q⟩
  | _ => exact hv.elim

/-! ### the data -/
structure Ent where
  name : Str
  fee : Int
  has : Bool
  row : List Str
def Ent.ok (e : Ent) : Prop := Fit 8 e.name ∧ e.fee.natAbs < 10 ^ 60 ∧ e.row.length ≤ 8 ∧ ∀ s ∈ e.row, Fit 8 s
def EntAt (K : PySem.W.Frag) (H : Hp) (v : V) (e : Ent) : Prop := ∃ p q, v = .ref p ∧ SqT K H p [.str e.name, .int e.fee, .bl e.has, .ref q] ∧ SqT K H q (e.row.map V.str)
inductive EntsAt (K : PySem.W.Frag) (H : Hp) : List V → List Ent → Prop
  | nil : EntsAt K H [] []
  | cons {v : V} {vs : List V} {e : Ent} {es : List Ent} : EntAt K H v e → EntsAt K H vs es → EntsAt K H (v :: vs) (e :: es)
theorem EntAt.same {K : PySem.W.Frag} {H H' : Hp} {v : V} {e : Ent} (s : Same H H') : EntAt K H v e → EntAt K H' v e := fun ⟨p, q, a, b, c⟩ => ⟨p, q, a, tupS s b, tupS s c⟩
theorem EntsAt.same {K : PySem.W.Frag} {H H' : Hp} (s : Same H H') : ∀ {vs : List V} {es : List Ent}, EntsAt K H vs es → EntsAt K H' vs es
  | _, _, .nil => .nil
  | _, _, .cons a b => .cons (a.same s) (EntsAt.same s b)
theorem EntsAt.len {K : PySem.W.Frag} {H : Hp} : ∀ {vs : List V} {es : List Ent}, EntsAt K H vs es → vs.length = es.length
  | _, _, .nil => rfl
  | _, _, .cons _ b => congrArg Nat.succ (EntsAt.len b)
theorem EntsAt.get {K : PySem.W.Frag} {H : Hp} : ∀ {vs : List V} {es : List Ent} {i : Nat} {v : V}, EntsAt K H vs es → vs[i]? = some v → ∃ e, es[i]? = some e ∧ EntAt K H v e
  | _, _, i, v, .nil, h => by cases h
  | _, _, 0, v, .cons a b, h => by
    have h : some _ = some v := h
    cases h
    exact ⟨_, rfl, a⟩
  | _, _, i + 1, v, .cons a b, h => EntsAt.get (i := i) b h
theorem EntsAt.append {K : PySem.W.Frag} {H : Hp} : ∀ {vs ws : List V} {es ds : List Ent}, EntsAt K H vs es → EntsAt K H ws ds → EntsAt K H (vs ++ ws) (es ++ ds)
  | _, _, _, _, .nil, h => h
  | _, _, _, _, .cons a b, h => .cons a (EntsAt.append b h)
theorem EntsAt.rev {K : PySem.W.Frag} {H : Hp} : ∀ {vs : List V} {es : List Ent}, EntsAt K H vs es → EntsAt K H vs.reverse es.reverse
  | _, _, .nil => .nil
  | _, _, .cons a b => by
    rw [List.reverse_cons, List.reverse_cons]
    exact (EntsAt.rev b).append (.cons a .nil)
structure Pg where
  es : List Ent
  asks : Str
def Pg.ok (g : Pg) : Prop := g.es.length ≤ 12 ∧ (∀ e ∈ g.es, e.ok) ∧ Fit 8 g.asks
def PgAt (K : PySem.W.Frag) (H : Hp) (v : V) (g : Pg) : Prop := ∃ p q vs, v = .ref p ∧ SqT K H p [.ref q, .str g.asks] ∧ SqT K H q vs ∧ EntsAt K H vs g.es
theorem PgAt.same {K : PySem.W.Frag} {H H' : Hp} {v : V} {g : Pg} (s : Same H H') : PgAt K H v g → PgAt K H' v g := fun ⟨p, q, vs, a, b, c, d⟩ => ⟨p, q, vs, a, tupS s b, tupS s c, d.same s⟩

/-! ### the texts -/
def tabT (t : List Str) : Str := if t = [] then ("-" : Str) else Str.join "," t
def wordT (b : Bool) : Str := if b = true then ("has" : Str) else ("not" : Str)
def feeT (i : Int) : Str := Str.ofString (toString i)
def lineT (e : Ent) : Str := Str.join " " ["kind", e.name, feeT e.fee, wordT e.has, tabT e.row]
def pageT (g : Pg) : Str := Str.join "\n" (g.es.map lineT ++ [("asker " : Str) ++ g.asks])
theorem fit_of (s : String) {n : Nat} (h : s.toList.length ≤ n) : Fit n (Str.ofString s) := ⟨by rw [len_string]; exact h, fit_string s⟩
theorem fee_log {i : Int} (h : i.natAbs < 10 ^ 60) : i.natAbs.log2 < 1920 := by
  by_cases z : i.natAbs = 0
  · rw [z]; decide
  · exact (Nat.log2_lt z).mpr (Nat.lt_trans h (by decide))
theorem feeT_fit {i : Int} (h : i.natAbs < 10 ^ 60) : Fit 61 (feeT i) := by
  refine fit_of _ ?_
  have := int_text_length_le10 (k := 60) (by decide) h
  rw [String.length_toList]
  exact this
theorem tabT_fit {t : List Str} (h : t.length ≤ 8) (k : ∀ s ∈ t, Fit 8 s) : Fit 100 (tabT t) := by
  unfold tabT
  split
  · exact fit_of "-" (by decide)
  · refine (Fit.join (m := 1) (fit_of "," (by decide)) t k).mono ?_
    have := Nat.mul_le_mul_right (8 + 1) h
    omega
theorem wordT_fit (b : Bool) : Fit 3 (wordT b) := by
  unfold wordT
  split
  · exact fit_of "has" (by decide)
  · exact fit_of "not" (by decide)
theorem lineT_fit {e : Ent} (h : e.ok) : Fit 600 (lineT e) := by
  obtain ⟨h1, h2, h3, h4⟩ := h
  refine (Fit.join (n := 100) (m := 1) (fit_of " " (by decide)) _ ?_).mono (by simp)
  intro x hx
  simp only [List.mem_cons, List.not_mem_nil, or_false] at hx
  rcases hx with rfl | rfl | rfl | rfl | rfl
  · exact (fit_of "kind" (n := 100) (by decide))
  · exact h1.mono (by omega)
  · exact (feeT_fit h2).mono (by omega)
  · exact (wordT_fit _).mono (by omega)
  · exact (tabT_fit h3 h4)
theorem askT_fit {g : Pg} (h : g.ok) : Fit 600 (("asker " : Str) ++ g.asks) := ((fit_of "asker " (n := 6) (by decide)).app h.2.2).mono (by omega)
theorem pageT_fit {g : Pg} (h : g.ok) : Fit 10000 (pageT g) := by
  refine (Fit.join (n := 600) (m := 1) (fit_of "\n" (by decide)) _ ?_).mono ?_
  · intro x hx
    rcases List.mem_append.mp hx with hx | hx
    · obtain ⟨e, he, rfl⟩ := List.mem_map.mp hx
      exact lineT_fit (h.2.1 e he)
    · obtain rfl := List.mem_singleton.mp hx
      exact askT_fit h
  · have := Nat.mul_le_mul_right (600 + 1) h.1
    rw [List.length_append, List.length_map, List.length_singleton, Nat.add_mul]
    omega
theorem kind_sp : ("kind " : Str) = ("kind" : Str) ++ (" " : Str) := by decide +kernel
theorem line_chain (e : Ent) : Str.empty ++ ("kind " : Str) ++ e.name ++ (" " : Str) ++ feeT e.fee ++ (" " : Str) ++ wordT e.has ++ (" " : Str) ++ tabT e.row = lineT e := by
  unfold lineT
  simp only [Str.join, app_assoc, nil_app, kind_sp]
end Kn


namespace Kn
open PySem PySem.Spec PyProof.Rows L2
def topS (i : Nat) : Stmt := PySem.Challenge.pw_firstletter_k49_whole_best_marks_in_runs.main.body.getD i (.Pass ⟨0, 0, 0, 0⟩)
theorem sum_le {n : Nat} : ∀ (ys : List Str), (∀ y ∈ ys, Fit n y) → (ys.map (·.length)).sum ≤ ys.length * n
  | [], _ => Nat.zero_le _
  | y :: r, h => by
    have ih := sum_le r fun v hv => h v (List.mem_cons_of_mem _ hv)
    have q := (h y (List.mem_cons_self ..)).1
    rw [List.map_cons, List.sum_cons, List.length_cons, Nat.add_mul]
    omega
/-- what join asks: few short texts -/
theorem join_room {n m : Nat} {a : Str} {ys : List Str} (h : ∀ y ∈ ys, Fit n y) (ha : a.length ≤ 10) (hl : ys.length ≤ m) (hm : m * (n + 10) ≤ 16777216) : (ys.map (·.length)).sum + ys.length * a.length ≤ 16777216 := by
  have h1 := sum_le ys h
  have h2 : ys.length * (n + 10) ≤ m * (n + 10) := Nat.mul_le_mul_right _ hl
  have h3 : ys.length * a.length ≤ ys.length * 10 := Nat.mul_le_mul_left _ ha
  rw [Nat.mul_add] at h2
  omega
theorem size16 : 16777216 ≤ sizeLine := by decide
theorem map_get {α β : Type} {f : α → β} {l : List α} {i : Nat} {y : β} (h : (l.map f)[i]? = some y) : ∃ x, l[i]? = some x ∧ f x = y := by
  rw [List.getElem?_map] at h
  exact Option.map_eq_some_iff.mp h
theorem seq_asg {te : TE} {g : TG} {u : TS} {D : Ends} {σ : L2.St} {H : Hp} (h : te σ H fun x H1 => g x σ H1 (u D)) : tSeq (tAsg te g) u D σ H := h
theorem big_of {n : Nat} {x : Str} (h : Fit n x) (l : n ≤ 100000) : x.length ≤ sizeLine := Nat.le_trans h.1 (Nat.le_trans l (by decide))
end Kn


namespace Kn
open PySem PySem.Spec PyProof.Rows L2
/-! ### the feed -/
abbrev kCells : Key := .inr "cells"
abbrev kAt : Key := .inr "at"
abbrev kHeld : Key := .inr "left"
abbrev kCount : Key := .inr "count"
theorem d1 : ¬ kCells = kAt := by decide +kernel
theorem d2 : ¬ kCells = kHeld := by decide +kernel
theorem d3 : ¬ kCells = kCount := by decide +kernel
theorem d4 : ¬ kAt = kHeld := by decide +kernel
theorem d5 : ¬ kAt = kCount := by decide +kernel
theorem d6 : ¬ kHeld = kCount := by decide +kernel
structure Four (a : Addr) (t h n : Int) (kvs : List (Key × V)) : Prop where
  few : kvs.length ≤ 4
  cells : valV kvs kCells = some (.ref a)
  at_ : valV kvs kAt = some (.int t)
  held : valV kvs kHeld = some (.int h)
  count : valV kvs kCount = some (.int n)
theorem putK_len {kvs : List (Key × V)} {k : Key} {x v : V} (h : valV kvs k = some x) : (putK kvs k v).length = kvs.length := by
  unfold putK
  rw [if_pos (by rw [valV_any, h]; rfl), List.length_map]
section
variable {a : Addr} {t h n : Int} {kvs : List (Key × V)}
theorem Four.put_at (q : Four a t h n kvs) (x : Int) : Four a x h n (putK kvs kAt (.int x)) :=
  ⟨by rw [putK_len q.at_]; exact q.few, by rw [valV_put, if_neg d1]; exact q.cells, by rw [valV_put, if_pos rfl], by rw [valV_put, if_neg fun e => d4 e.symm]; exact q.held, by rw [valV_put, if_neg fun e => d5 e.symm]; exact q.count⟩
theorem Four.put_held (q : Four a t h n kvs) (x : Int) : Four a t x n (putK kvs kHeld (.int x)) :=
  ⟨by rw [putK_len q.held]; exact q.few, by rw [valV_put, if_neg d2]; exact q.cells, by rw [valV_put, if_neg d4]; exact q.at_, by rw [valV_put, if_pos rfl], by rw [valV_put, if_neg fun e => d6 e.symm]; exact q.count⟩
theorem Four.put_count (q : Four a t h n kvs) (x : Int) : Four a t h x (putK kvs kCount (.int x)) :=
  ⟨by rw [putK_len q.count]; exact q.few, by rw [valV_put, if_neg d3]; exact q.cells, by rw [valV_put, if_neg d5]; exact q.at_, by rw [valV_put, if_neg d6]; exact q.held, by rw [valV_put, if_pos rfl]⟩
theorem four_new (a : Addr) : Four a 0 0 0 (mergeK [] [(kCells, .ref a), (kAt, .int 0), (kHeld, .int 0), (kCount, .int 0)]) := by
  have e : mergeK [] [(kCells, V.ref a), (kAt, .int 0), (kHeld, .int 0), (kCount, .int 0)] = putK (putK (putK (putK [] kCells (.ref a)) kAt (.int 0)) kHeld (.int 0)) kCount (.int 0) := rfl
  refine ⟨length_mergeK _ _, ?_, ?_, ?_, ?_⟩
  · rw [e, valV_put, if_neg d3, valV_put, if_neg d2, valV_put, if_neg d1, valV_put, if_pos rfl]
  · rw [e, valV_put, if_neg d5, valV_put, if_neg d4, valV_put, if_pos rfl]
  · rw [e, valV_put, if_neg d6, valV_put, if_pos rfl]
  · rw [e, valV_put, if_pos rfl]
end
/-- the feed at f, its cells at a; at most c draws were made -/
structure Fd (f a : Addr) (ns : List Int) (H : Hp) (c : Nat) : Prop where
  ex : ∃ kvs t h n, H f = some (.dK kvs) ∧ Four a t h n kvs ∧ 0 ≤ t ∧ t ≤ n ∧ n ≤ (c : Int)
  cl : H a = some (.lst (ns.map V.int))
  few : ns.length ≤ 63
def Keep (f : Addr) (H H' : Hp) : Prop := ∀ b o, b ≠ f → H b = some o → H' b = some o
theorem Keep.refl (f : Addr) (H : Hp) : Keep f H H := fun _ _ _ h => h
theorem Keep.trans {f : Addr} {H H1 H2 : Hp} (a : Keep f H H1) (b : Keep f H1 H2) : Keep f H H2 := fun c o n h => b c o n (a c o n h)
theorem keep_same {f : Addr} {H H1 : Hp} (s : Same H H1) : Keep f H H1 := fun b o _ h => s b o h
theorem keep_upd {f : Addr} {H : Hp} {o : HO} : Keep f H (upd H f o) := fun b x n h => by rw [upd_ne n]; exact h
theorem Fd.more {f a : Addr} {ns : List Int} {H : Hp} {c d : Nat} (h : Fd f a ns H c) (l : c ≤ d) : Fd f a ns H d := by
  obtain ⟨⟨kvs, t, x, n, h1, h2, h3, h4, h5⟩, h6, h7⟩ := h
  exact ⟨⟨kvs, t, x, n, h1, h2, h3, h4, by omega⟩, h6, h7⟩
theorem Fd.same {f a : Addr} {ns : List Int} {H H' : Hp} {c : Nat} (h : Fd f a ns H c) (s : Same H H') : Fd f a ns H' c := by
  obtain ⟨⟨kvs, t, x, n, h1, h2⟩, h6, h7⟩ := h
  exact ⟨⟨kvs, t, x, n, s _ _ h1, h2⟩, s _ _ h6, h7⟩
/-- a list of one's own changes -/
theorem Fd.own {f a D : Addr} {ns : List Int} {H : Hp} {c : Nat} {o : HO} (h : Fd f a ns H c) (n1 : f ≠ D) (n2 : a ≠ D) : Fd f a ns (upd H D o) c := by
  obtain ⟨⟨kvs, t, x, n, h1, h2⟩, h6, h7⟩ := h
  exact ⟨⟨kvs, t, x, n, by rw [upd_ne n1]; exact h1, h2⟩, by rw [upd_ne n2]; exact h6, h7⟩
theorem Fd.ne {f a : Addr} {ns : List Int} {H : Hp} {c : Nat} (h : Fd f a ns H c) : a ≠ f := by
  obtain ⟨⟨kvs, t, x, n, h1, _⟩, h6, _⟩ := h
  exact ne_of h6 h1 (by intro z; cases z)
theorem Fd.free {f a D : Addr} {ns : List Int} {H : Hp} {c : Nat} (h : Fd f a ns H c) (n : H D = none) : f ≠ D ∧ a ≠ D := by
  obtain ⟨⟨kvs, t, x, n', h1, _⟩, h6, _⟩ := h
  exact ⟨ne_of_none h1 n, ne_of_none h6 n⟩
/-- the feed's dict changes -/
theorem Fd.put {f a : Addr} {ns : List Int} {H : Hp} {c : Nat} {kvs : List (Key × V)} {t h n : Int} (q : Fd f a ns H c) (F : Four a t h n kvs) (h0 : 0 ≤ t) (h1 : t ≤ n) (h2 : n ≤ (c : Int)) : Fd f a ns (upd H f (.dK kvs)) c :=
  ⟨⟨kvs, t, h, n, upd_same, F, h0, h1, h2⟩, by rw [upd_ne q.ne]; exact q.cl, q.few⟩

theorem dpAll_ints {K : PySem.W.Frag} {H : Hp} : ∀ ns : List Int, DpAll K H (ns.map V.int) (ns.map PyData.int)
  | [] => .nil
  | n :: r => .cons (.int n) (dpAll_ints r)
end Kn


namespace Kn
open PySem PySem.Spec PyProof.Rows L2
abbrev nDraw : List Str := ["_law_feed_here", "_law_many", "_law_digit", "_law_turn_in", "_law_cell", "_law_mixed"]
theorem scDraw : FnScope nDraw ["_law_feed_here", "_law_many"] (defScope (topS 23)) := ⟨rfl, rfl, rfl, by decide +kernel, rfl, by decide +kernel, by decide +kernel⟩
theorem lay_ints : ∀ ns : List Int, PyData.canLayAll0 (ns.map PyData.int) = true
  | [] => rfl
  | n :: r => by
    show (PyData.canLay0 (.int n) && PyData.canLayAll0 (r.map PyData.int)) = true
    rw [lay_ints r]
    rfl
theorem depth_ints : ∀ ns : List Int, PyData.depthAll (ns.map PyData.int) = 0
  | [] => rfl
  | n :: r => by
    show max (PyData.depth (.int n)) (PyData.depthAll (r.map PyData.int)) = 0
    rw [depth_ints r]
    rfl
theorem shaped_ints (ns : List Int) : SeqAt.shaped (.list (ns.map PyData.int)) = true := by
  unfold SeqAt.shaped
  have h1 : PyData.canLay0 (.list (ns.map PyData.int)) = true := by
    show PyData.canLayAll0 (ns.map PyData.int) = true
    exact lay_ints ns
  have h2 : PyData.depth (.list (ns.map PyData.int)) = 1 := by
    show PyData.depthAll (ns.map PyData.int) + 1 = 1
    rw [depth_ints]
  rw [h1, h2]
  rfl
theorem eqv_nil_ints (ns : List Int) : PyData.eqv (.list (ns.map PyData.int)) (.list []) = ns.isEmpty := by
  cases ns with
  | nil => rfl
  | cons n r => rfl
theorem mul_bound {x b : Int} (h0 : 0 ≤ x) (h1 : x < 2147482951) : -(2 ^ 64) < x ∧ x < 2 ^ 64 := ⟨by omega, by omega⟩
theorem at_mod {ns : List Int} {t : Int} (h : 0 ≤ t) (pos : 0 < ns.length) : ∃ x : Int, atI (ns.map V.int) (t % ((ns.map V.int).length : Int)) = some (.int x) := by
  rw [List.length_map]
  have h0 := Int.emod_nonneg t (show (ns.length : Int) ≠ 0 by omega)
  have h1 := Int.emod_lt_of_pos t (show (0 : Int) < (ns.length : Int) by omega)
  obtain ⟨j, hj⟩ := Int.eq_ofNat_of_zero_le h0
  rw [hj] at h1 ⊢
  have hl : j < ns.length := by omega
  refine ⟨ns[j], at_of rfl ?_⟩
  rw [List.getElem?_map, List.getElem?_eq_getElem hl]
  rfl
def spDraw : Sp := fun vs H Q _ => ∃ (f a : Addr) (ns : List Int) (c : Nat) (m : Int), vs = [.ref f, .int m] ∧ 0 < m ∧ m ≤ 1000 ∧ Fd f a ns H c ∧ c < 100000 ∧
  ∀ (r : Int) (H' : Hp), 0 ≤ r → r < m → Keep f H H' → Fd f a ns H' (c + 1) → Q (.int r) H'
section
variable {P : Program} {w : World} {K : PySem.W.Frag} {mg : Str → Option Value} {base : Heap}
theorem ok_draw {g : Addr} {fd : FuncData} (F : Fun K "_law_draw" "_law_draw" (topS 23) g fd) (mi : mg "int" = none) (ml : mg "len" = none) : FnOk P w K mg base CX0 1 g fd ["_law_feed_here", "_law_many"] spDraw := by
  refine F.ok scDraw (fun vs H Q E h => ?_) (fun cdv A outer s H vs Q E hr h => ?_)
  · obtain ⟨f, a, ns, c, m, rfl, _⟩ := h
    rfl
  · obtain ⟨f, a, ns, c, m, rfl, m0, m1, fd0, hc, q⟩ := h
    have hu := hu_of hr
    obtain ⟨kvs, t, hh, n, e1, four, t0, tn, nc⟩ := fd0.ex
    refine ⟨_, (pss_cons (ps_dput hu (pv 0) pe_str (pe_op op_add (pe_dget hu (pv 0) pe_str (fun _ _ => rfl)) pe_int) rfl)
      (pss_cons (ps_if (pt_cmpR op_gt (pe_dget hu (pv 0) pe_str (fun _ _ => rfl)) pe_int (nomark _)) (pss_cons (ps_set (i := 2) scDraw.nd rfl (.inl rfl) (pe_op op_mod (pe_callTy call_int1 (by rfl) mi boot_int (pa_cons (pe_dget hu (pv 0) pe_str (fun _ _ => rfl)) pa_nil)) (pv 1)))
      (pss_cons (ps_dput hu (pv 0) pe_str (pe_op op_fdivN (pe_dget hu (pv 0) pe_str (fun _ _ => rfl)) (pv 1)) rfl)
      (pss_one (ps_ret (pv 2))))) pss_nil)
      (pss_cons (ps_set (i := 3) scDraw.nd rfl (.inl rfl) (pe_dget hu (pv 0) pe_str (fun _ _ => rfl)))
      (pss_cons (ps_dput hu (pv 0) pe_str (pe_op op_add (pv 3) pe_int) rfl)
      (pss_cons (ps_set (i := 4) scDraw.nd rfl (.inl rfl) (pe_ifExp (pt_cmpR (op_neD hr.units) (pe_dget hu (pv 0) pe_str (fun _ _ => rfl)) (pe_lst pa_nil) (nomark _)) (pe_ix ix_list (pe_dget hu (pv 0) pe_str (fun _ _ => rfl)) (pe_op op_mod (pe_callTy call_int1 (by rfl) mi boot_int (pa_cons (pv 3) pa_nil)) (pe_callB call_len_seq (by rfl) ml PySem.boot_len (pa_cons (pe_dget hu (pv 0) pe_str (fun _ _ => rfl)) pa_nil))) (fun _ _ => rfl)) pe_int))
      (pss_cons (ps_if (PW.pt (pw_and (pt_cmpR op_ge (pv 4) (pe_op op_pow pe_int pe_int) (nomark _)) (pw_and1 (pt_cmpR op_lt (pv 3) (pe_callB call_len_seq (by rfl) ml PySem.boot_len (pa_cons (pe_dget hu (pv 0) pe_str (fun _ _ => rfl)) pa_nil)) (nomark _))))) (pss_cons (ps_dput hu (pv 0) pe_str (pe_op op_fdivN (pv 4) (pv 1)) rfl)
      (pss_one (ps_ret (pe_op op_mod (pe_callTy call_int1 (by rfl) mi boot_int (pa_cons (pv 4) pa_nil)) (pv 1))))) pss_nil)
      (pss_cons (ps_set (i := 5) scDraw.nd rfl (.inl rfl) (pe_op op_mod (pe_callTy call_int1 (by rfl) mi boot_int (pa_cons (pe_op op_add (pe_op op_add (pe_op op_mod (pe_callTy call_int1 (by rfl) mi boot_int (pa_cons (pv 4) pa_nil)) pe_int) (pe_op op_mul pe_int (pe_dget hu (pv 0) pe_str (fun _ _ => rfl)))) pe_int) pa_nil)) pe_int))
      (pss_cons (ps_set (i := 5) scDraw.nd rfl (.inl rfl) (pe_op op_mod (pe_callTy call_int1 (by rfl) mi boot_int (pa_cons (pe_op op_add (pe_op op_add (pe_op op_mul (pv 5) (pv 5)) (pe_op op_mul pe_int (pe_dget hu (pv 0) pe_str (fun _ _ => rfl)))) pe_int) pa_nil)) pe_int))
      (pss_one (ps_ret (pe_op op_mod (pe_callTy call_int1 (by rfl) mi boot_int (pa_cons (pe_op op_fdiv (pe_op op_mod (pe_callTy call_int1 (by rfl) mi boot_int (pa_cons (pe_op op_add (pe_op op_mul (pv 5) (pv 5)) (pe_op op_mul pe_int (pv 5))) pa_nil)) pe_int) pe_int) pa_nil)) (pv 1)))))))))))), ?_⟩
    have n0 : 0 ≤ n := Int.le_trans t0 tn
    have dg : ∀ {H : Hp} {kvs : List (Key × V)} {k : Key} {v : V}, H f = some (.dK kvs) → valV kvs k = some v → DGet H f (kV k) (some v) := fun e z => by
      rw [← z]
      exact DGet.k e
    have four2 := four.put_count (n + 1)
    have fd2 : Fd f a ns (upd H f (.dK (putK kvs kCount (.int (n + 1))))) (c + 1) := (fd0.more (Nat.le_succ c)).put four2 t0 (by omega) (by omega)
    refine ⟨_, rfl, f, .int n, rfl, dg (k := kCount) e1 four.count, n, 1, rfl, rfl, _, rfl, f, _, rfl, DPut.k (k := kCount) e1 (small' (Nat.le_trans four.few (by decide))), ?_⟩
    have k2 : Keep f H (upd H f (.dK (putK kvs kCount (.int (n + 1))))) := keep_upd
    have e2 : (upd H f (.dK (putK kvs kCount (.int (n + 1))))) f = some (.dK (putK kvs kCount (.int (n + 1)))) := upd_same
    generalize upd H f (.dK (putK kvs kCount (.int (n + 1)))) = H2 at fd2 e2 k2 ⊢
    generalize putK kvs kCount (.int (n + 1)) = kv2 at four2 e2
    have m3 : ∀ x : Int, 0 ≤ x % m ∧ x % m < m := fun x => ⟨Int.emod_nonneg _ (by omega), Int.emod_lt_of_pos _ m0⟩
    have cd : CDivN hh m := ⟨by omega, by omega⟩
    refine ⟨_, rfl, f, .int hh, rfl, dg (k := kHeld) e2 four2.held, hh, 0, rfl, rfl, _, rfl, ite2 (fun _ => ?_) (fun _ => ?_)⟩
    · -- a figure of what is left
      refine ⟨_, rfl, f, .int hh, rfl, dg (k := kHeld) e2 four2.held, .inl ⟨hh, rfl, _, rfl, hh, m, rfl, rfl, m0, ?_⟩⟩
      refine ⟨_, rfl, f, .int hh, rfl, dg (k := kHeld) e2 four2.held, _, rfl, hh, m, rfl, rfl, cd, _, rfl, f, _, rfl, DPut.k (k := kHeld) e2 (small' (Nat.le_trans four2.few (by decide))), ?_⟩
      exact ⟨_, rfl, q _ _ (m3 hh).1 (m3 hh).2 (k2.trans keep_upd) (fd2.put (four2.put_held _) t0 (by omega) (by omega))⟩
    · -- the next cell
      refine ⟨_, rfl, f, .int t, rfl, dg (k := kAt) e2 four2.at_, ?_⟩
      have four3 := four2.put_at (t + 1)
      have fd3 := fd2.put four3 (by omega) (by omega) (by omega)
      have k3 := k2.trans (keep_upd (f := f) (H := H2) (o := .dK (putK kv2 kAt (.int (t + 1)))))
      have e3 : (upd H2 f (.dK (putK kv2 kAt (.int (t + 1))))) f = some (.dK (putK kv2 kAt (.int (t + 1)))) := upd_same
      refine ⟨_, rfl, t, 1, rfl, rfl, _, rfl, f, _, rfl, DPut.k (k := kAt) e2 (small' (Nat.le_trans four2.few (by decide))), ?_⟩
      generalize upd H2 f (.dK (putK kv2 kAt (.int (t + 1)))) = H3 at fd3 e3 k3 ⊢
      generalize putK kv2 kAt (.int (t + 1)) = kv3 at four3 e3
      have cl : SqL K H3 a (ns.map V.int) := .inl (.inl fd3.cl)
      refine ⟨_, rfl, f, .ref a, rfl, dg (k := kCells) e3 four3.cells, Nat.zero_le _, fun z nz => ⟨.list (ns.map PyData.int), .list [], .lst (.inl (.inl (by rw [upd_ne (fd3.free nz).2]; exact fd3.cl))) (dpAll_ints ns), .lst (.inl (.inl upd_same)) .nil, shaped_ints ns, rfl, _, rfl, ?_⟩⟩
      have k4 : Keep f H (upd H3 z (.lst [])) := k3.trans (keep_same (same_new nz))
      have fd4 : Fd f a ns (upd H3 z (.lst [])) (c + 1) := fd3.own (fd3.free nz).1 (fd3.free nz).2
      have e4 : (upd H3 z (.lst [])) f = some (.dK kv3) := by rw [upd_ne (fd3.free nz).1]; exact e3
      generalize upd H3 z (.lst []) = H4 at k4 fd4 e4 ⊢
      have cl4 : SqL K H4 a (ns.map V.int) := .inl (.inl fd4.cl)
      have s0 : 0 ≤ n + 1 := by omega
      have s1 : n + 1 ≤ 100001 := by omega
      rw [eqv_nil_ints]
      cases hns : ns.isEmpty
      case' false =>
        have pos : 0 < ns.length := by
          cases ns with
          | nil => cases hns
          | cons _ _ => exact Nat.succ_pos _
        obtain ⟨x, hx⟩ := at_mod (ns := ns) (t := t) t0 pos
        refine iteT ⟨_, rfl, f, .ref a, rfl, dg (k := kCells) e4 four3.cells, _, rfl, .inl ⟨t, rfl, _, rfl, f, .ref a, rfl, dg (k := kCells) e4 four3.cells, a, ns.map V.int, rfl, .inl cl4, t, _, rfl, rfl, (by rw [List.length_map]; omega), a, ns.map V.int, _, .int x, rfl, rfl, cl4, hx, ?_⟩⟩
      case' true =>
        refine iteF ?_
        show Ends.nx _ (List.set _ 4 (some (V.int _))) H4
        generalize (4737 : Int) = x
      all_goals
        have head : 0 ≤ x % 1000000531 ∧ x % 1000000531 < 1000000531 := ⟨Int.emod_nonneg _ (by decide), Int.emod_lt_of_pos _ (by decide)⟩
        have mids : ∀ u : Int, 0 ≤ u % 2147482951 ∧ u % 2147482951 < 2147482951 := fun u => ⟨Int.emod_nonneg _ (by decide), Int.emod_lt_of_pos _ (by decide)⟩
        have mids2 : ∀ u : Int, 0 ≤ u % 2147482949 ∧ u % 2147482949 < 2147482949 := fun u => ⟨Int.emod_nonneg _ (by decide), Int.emod_lt_of_pos _ (by decide)⟩
        refine ⟨_, rfl, 10, 18, rfl, rfl, ⟨by decide, by decide, by decide⟩, x, _, rfl, rfl, _, rfl, ite2 (fun _ => ⟨_, rfl, _, rfl, f, .ref a, rfl, dg (k := kCells) e4 four3.cells, a, _, rfl, .inl cl4, t, _, rfl, rfl, _, rfl, ite2 (fun _ => ?_) (fun _ => ?_)⟩) (fun _ => ?_)⟩
        · refine ⟨_, rfl, _, rfl, x, m, rfl, rfl, ⟨by omega, by omega⟩, _, rfl, f, _, rfl, DPut.k (k := kHeld) e4 (small' (Nat.le_trans four3.few (by decide))), ?_⟩
          exact ⟨_, rfl, .inl ⟨x, rfl, _, rfl, x, m, rfl, rfl, m0, q _ _ (m3 x).1 (m3 x).2 (k4.trans keep_upd) (fd4.put (four3.put_held _) (by omega) (by omega) (by omega))⟩⟩
        all_goals
          refine ⟨_, rfl, .inl ⟨x, rfl, x, _, rfl, rfl, (show (0 : Int) < 1000000531 by decide), _, rfl, f, .int (n + 1), rfl, dg (k := kCount) e4 four3.count, _, n + 1, rfl, rfl, .inl ⟨by decide, by decide⟩, _, _, rfl, rfl, _, _, rfl, rfl, .inl ⟨_, rfl, _, _, rfl, rfl, (show (0 : Int) < 2147482951 by decide), ?_⟩⟩⟩
          obtain ⟨y0, y1⟩ := mids (x % 1000000531 + 322857 * (n + 1) + 309)
          refine ⟨_, rfl, _, rfl, _, _, rfl, rfl, .inl ⟨by omega, by omega⟩, _, rfl, f, .int (n + 1), rfl, dg (k := kCount) e4 four3.count, _, n + 1, rfl, rfl, .inl ⟨by decide, by decide⟩, _, _, rfl, rfl, _, _, rfl, rfl, .inl ⟨_, rfl, _, _, rfl, rfl, (show (0 : Int) < 2147482949 by decide), ?_⟩⟩
          obtain ⟨z0, z1⟩ := mids2 ((x % 1000000531 + 322857 * (n + 1) + 309) % 2147482951 * ((x % 1000000531 + 322857 * (n + 1) + 309) % 2147482951) + 8553873 * (n + 1) + 279)
          exact ⟨_, rfl, _, rfl, _, _, rfl, rfl, .inl ⟨by omega, by omega⟩, _, rfl, _, _, rfl, rfl, .inl ⟨by decide, by decide⟩, _, _, rfl, rfl, .inl ⟨_, rfl, _, _, rfl, rfl, (show (0 : Int) < 2147482873 by decide), _, _, rfl, rfl, ⟨by decide, by decide⟩, .inl ⟨_, rfl, _, rfl, _, m, rfl, rfl, m0, q _ _ (m3 _).1 (m3 _).2 k4 fd4⟩⟩⟩
end
end Kn


namespace Kn
open PySem PySem.Spec PyProof.Rows L2
/-! ### what stays -/
def TS (H H' : Hp) : Prop := (∀ b xs, H b = some (.tup xs) → H' b = some (.tup xs)) ∧ ∀ b o xs, H b = some (.frz o (.tup xs)) → H' b = some (.frz o (.tup xs))
theorem TS.refl (H : Hp) : TS H H := ⟨fun _ _ h => h, fun _ _ _ h => h⟩
theorem TS.trans {H H1 H2 : Hp} (a : TS H H1) (b : TS H1 H2) : TS H H2 := ⟨fun c x h => b.1 c x (a.1 c x h), fun c o x h => b.2 c o x (a.2 c o x h)⟩
theorem ts_same {H H' : Hp} (s : Same H H') : TS H H' := ⟨fun b xs h => s b _ h, fun b o xs h => s b _ h⟩
theorem ts_keep {f : Addr} {H H' : Hp} {kvs : List (Key × V)} (e : H f = some (.dK kvs)) (k : Keep f H H') : TS H H' :=
  ⟨fun b xs h => k b _ (ne_of h e (by intro z; cases z)) h, fun b o xs h => k b _ (ne_of h e (by intro z; cases z)) h⟩
theorem ts_fd {f a : Addr} {ns : List Int} {H H' : Hp} {c : Nat} (d : Fd f a ns H c) (k : Keep f H H') : TS H H' := by
  obtain ⟨⟨kvs, t, x, n, h1, _⟩, _, _⟩ := d
  exact ts_keep h1 k
theorem ts_lst {D : Addr} {H : Hp} {acc : List V} {o : HO} (e : H D = some (.lst acc)) : TS H (upd H D o) :=
  ⟨fun b xs h => by rw [upd_ne (ne_of h e (by intro z; cases z))]; exact h, fun b o xs h => by rw [upd_ne (ne_of h e (by intro z; cases z))]; exact h⟩
theorem tupT {K : PySem.W.Frag} {H H' : Hp} {a : Addr} {xs : List V} (s : TS H H') (h : SqT K H a xs) : SqT K H' a xs := by
  rcases h with (h | ⟨o, h⟩) | h
  · exact .inl (.inl (s.1 _ _ h))
  · exact .inl (.inr ⟨o, s.2 _ _ _ h⟩)
  · exact .inr h
theorem EntAt.ts {K : PySem.W.Frag} {H H' : Hp} {v : V} {e : Ent} (s : TS H H') : EntAt K H v e → EntAt K H' v e := fun ⟨p, q, a, b, c⟩ => ⟨p, q, a, tupT s b, tupT s c⟩
theorem EntsAt.ts {K : PySem.W.Frag} {H H' : Hp} (s : TS H H') : ∀ {vs : List V} {es : List Ent}, EntsAt K H vs es → EntsAt K H' vs es
  | _, _, .nil => .nil
  | _, _, .cons a b => .cons (a.ts s) (EntsAt.ts s b)
theorem PgAt.ts {K : PySem.W.Frag} {H H' : Hp} {v : V} {g : Pg} (s : TS H H') : PgAt K H v g → PgAt K H' v g := fun ⟨p, q, vs, a, b, c, d⟩ => ⟨p, q, vs, a, tupT s b, tupT s c, d.ts s⟩
theorem fd_ne {f a p : Addr} {ns : List Int} {H : Hp} {c : Nat} {xs : List V} (d : Fd f a ns H c) (h : H p = some (.lst xs)) : p ≠ f := by
  obtain ⟨⟨kvs, t, x, n, h1, _⟩, _, _⟩ := d
  exact ne_of h h1 (by intro z; cases z)
theorem seqK {K : PySem.W.Frag} {f a p : Addr} {ns : List Int} {H H' : Hp} {c : Nat} {xs : List V} (d : Fd f a ns H c) (k : Keep f H H') (h : SqL K H p xs) : SqL K H' p xs := by
  obtain ⟨⟨kvs, t, x, n, h1, _⟩, _, _⟩ := d
  rcases h with (h | ⟨o, h⟩) | h
  · exact .inl (.inl (k _ _ (ne_of h h1 (by intro z; cases z)) h))
  · exact .inl (.inr ⟨o, k _ _ (ne_of h h1 (by intro z; cases z)) h⟩)
  · exact .inr h

abbrev nStart : List Str := ["_law_script"]
theorem scStart : FnScope nStart ["_law_script"] (defScope (topS 22)) := ⟨rfl, rfl, rfl, by decide +kernel, rfl, by decide +kernel, by decide +kernel⟩
abbrev nAny : List Str := ["_law_feed_here", "_law_some"]
def spStart (K : PySem.W.Frag) : Sp := fun vs H Q _ => ∃ (s : Addr) (ns : List Int), vs = [.ref s] ∧ SqL K H s (ns.map V.int) ∧ ns.length ≤ 63 ∧
  ∀ (f a : Addr) (ms : List Int) (H' : Hp), H f = none → Same H H' → Fd f a ms H' 0 → Q (.ref f) H'
def spAny (K : PySem.W.Frag) : Sp := fun vs H Q _ => ∃ (f a p : Addr) (ns : List Int) (c : Nat) (xs : List V), vs = [.ref f, .ref p] ∧ Fd f a ns H c ∧ c < 100000 ∧ SqL K H p xs ∧ 0 < xs.length ∧ xs.length ≤ 1000 ∧
  ∀ (x : V) (H' : Hp), x ∈ xs → Keep f H H' → Fd f a ns H' (c + 1) → Q x H'
theorem ne_free {f a p : Addr} {ns : List Int} {H G : Hp} {c : Nat} (d : Fd f a ns G c) (k : Keep f H G) (n : G p = none) : H p = none := by
  cases e : H p with
  | none => rfl
  | some o =>
    by_cases hpf : p = f
    · subst hpf
      exact absurd rfl (d.free n).1
    · have := k _ _ hpf e
      rw [n] at this
      cases this
section
variable {P : Program} {w : World} {K : PySem.W.Frag} {mg : Str → Option Value} {base : Heap}
theorem ok_start {g : Addr} {fd : FuncData} (F : Fun K "_law_feed" "_law_feed" (topS 22) g fd) (mli : mg "list" = none) : FnOk P w K mg base CX0 1 g fd ["_law_script"] (spStart K) := by
  refine F.ok scStart (fun vs H Q E h => ?_) (fun cdv A outer s H vs Q E hr h => ?_)
  · obtain ⟨s, ns, rfl, _⟩ := h
    rfl
  · obtain ⟨s, ns, rfl, hS, hl, q⟩ := h
    refine ⟨_, pss_one (ps_ret (pe_disp (pps_cons pe_str (pe_callTy call_list_of (by rfl) mli (by decide +kernel) (pa_cons (pe_slice sl_list (pv 0) po_none (po_some pe_int)) pa_nil)) (pps_cons pe_str pe_int (pps_cons pe_str pe_int (pps_cons pe_str pe_int pps_nil)))) (by rfl) (by rfl) (fun z => by cases z) (by decide))), ?_⟩
    intro f nf
    refine ⟨.ref s, rfl, 63, rfl, s, _, rfl, (same_new nf).seq hS, fun b nb => ?_⟩
    refine ⟨b, _, rfl, .inl (.inl (.inl upd_same)), fun a na => ?_⟩
    have sb := same_new (o := .lst (cutV (ns.map V.int) none (some 63))) nb
    have nfb : f ≠ b := ne_of_none (upd_same (H := H) (a := f) (o := .dK [])) nb
    have na0 : upd H f (.dK []) a = none := sb.free na
    have nfa : f ≠ a := ne_of_none (upd_same (H := H) (a := f) (o := .dK [])) na0
    have na1 : H a = none := (same_new nf).free na0
    have nb1 : H b = none := (same_new nf).free nb
    refine ⟨by rw [upd_ne nfa, upd_ne nfb]; exact upd_same, [(kCells, .ref a), (kAt, .int 0), (kHeld, .int 0), (kCount, .int 0)], rfl, (show 4 ≤ 15 by decide), ?_⟩
    refine q f a ((ns.drop (HT.sIx (ns.map V.int).length 0 none)).take (HT.sIx (ns.map V.int).length (ns.map V.int).length (some 63) - HT.sIx (ns.map V.int).length 0 none)) _ nf ?_ ⟨⟨_, 0, 0, 0, upd_same, four_new a, by decide, by decide, by decide⟩, ?_, ?_⟩
    · exact putS (putS (putS (same_new nf) nb1) na1) nf
    · rw [upd_ne nfa.symm, upd_same]
      unfold cutV
      rw [List.map_take, List.map_drop]
    · rw [List.length_take, List.length_drop]
      omega
end
end Kn


/-! Kn: isinstance of data. -/
namespace Kn
open PySem PySem.Spec PyProof.Rows L2
def tyName : PyData → String
  | .none => "NoneType"
  | .bool _ => "bool"
  | .int _ => "int"
  | .str _ => "str"
  | .list _ => "list"
  | .tuple _ => "tuple"
  | .dict _ => "dict"
def intB : PyData → Bool
  | .int _ => true
  | _ => false
def boolB : PyData → Bool
  | .bool _ => true
  | _ => false
def strB : PyData → Bool
  | .str _ => true
  | _ => false
def posB : PyData → Bool
  | .int n => decide (1 ≤ n)
  | _ => false
theorem ty_of {K : PySem.W.Frag} {H : Hp} {v : V} {d : PyData} (h : Dp K H v d) : TyX K H v (.type (tyName d)) := by
  cases h with
  | non => exact .base .non
  | bl b => exact .base (.bl b)
  | int i => exact .base (.int i)
  | str x => exact .base (.str x)
  | lst h k =>
    rcases h with (h | ⟨o, h⟩) | ⟨o, its, n, h, c, _⟩
    · exact .base (.lst h)
    · exact .base (.frz h)
    · exact .kList h c
  | tup h k =>
    rcases h with (h | ⟨o, h⟩) | ⟨o, its, n, h, c, _⟩
    · exact .base (.tup h)
    · exact .fTuple h
    · exact .kTuple h c
theorem no_dict {K : PySem.W.Frag} {H : Hp} {v : V} {es : List (PyData × PyData)} (h : Dp K H v (.dict es)) : False := by cases h
section
variable {K : PySem.W.Frag} {d : PyData}
theorem kit_int : PySem.W.kitOne K (.type (tyName d)) (.type "int") = some (intB d || boolB d) := by
  cases d with
  | none => exact kit_ty (K := K) (a := "NoneType") (b := "int") (r := false) (by decide +kernel)
  | bool _ => exact kit_ty (K := K) (a := "bool") (b := "int") (r := true) (by decide +kernel)
  | int _ => exact kit_ty (K := K) (a := "int") (b := "int") (r := true) (by decide +kernel)
  | str _ => exact kit_ty (K := K) (a := "str") (b := "int") (r := false) (by decide +kernel)
  | list _ => exact kit_ty (K := K) (a := "list") (b := "int") (r := false) (by decide +kernel)
  | tuple _ => exact kit_ty (K := K) (a := "tuple") (b := "int") (r := false) (by decide +kernel)
  | dict _ => exact kit_ty (K := K) (a := "dict") (b := "int") (r := false) (by decide +kernel)
theorem kit_bool : PySem.W.kitOne K (.type (tyName d)) (.type "bool") = some (boolB d) := by
  cases d with
  | none => exact kit_ty (K := K) (a := "NoneType") (b := "bool") (r := false) (by decide +kernel)
  | bool _ => exact kit_ty (K := K) (a := "bool") (b := "bool") (r := true) (by decide +kernel)
  | int _ => exact kit_ty (K := K) (a := "int") (b := "bool") (r := false) (by decide +kernel)
  | str _ => exact kit_ty (K := K) (a := "str") (b := "bool") (r := false) (by decide +kernel)
  | list _ => exact kit_ty (K := K) (a := "list") (b := "bool") (r := false) (by decide +kernel)
  | tuple _ => exact kit_ty (K := K) (a := "tuple") (b := "bool") (r := false) (by decide +kernel)
  | dict _ => exact kit_ty (K := K) (a := "dict") (b := "bool") (r := false) (by decide +kernel)
theorem kit_str : PySem.W.kitOne K (.type (tyName d)) (.type "str") = some (strB d) := by
  cases d with
  | none => exact kit_ty (K := K) (a := "NoneType") (b := "str") (r := false) (by decide +kernel)
  | bool _ => exact kit_ty (K := K) (a := "bool") (b := "str") (r := false) (by decide +kernel)
  | int _ => exact kit_ty (K := K) (a := "int") (b := "str") (r := false) (by decide +kernel)
  | str _ => exact kit_ty (K := K) (a := "str") (b := "str") (r := true) (by decide +kernel)
  | list _ => exact kit_ty (K := K) (a := "list") (b := "str") (r := false) (by decide +kernel)
  | tuple _ => exact kit_ty (K := K) (a := "tuple") (b := "str") (r := false) (by decide +kernel)
  | dict _ => exact kit_ty (K := K) (a := "dict") (b := "str") (r := false) (by decide +kernel)
end
end Kn


/-! Kn: written data, as a whole. -/
namespace Kn
open PySem PySem.Spec PyProof.Rows L2
theorem sameDp {K : PySem.W.Frag} {H H' : Hp} (s : Same H H') {a : Addr} {xs : List V} (h : SqT K H a xs) : SqT K H' a xs := by
  rcases h with (h | ⟨o, h⟩) | h
  · exact .inl (.inl (s _ _ h))
  · exact .inl (.inr ⟨o, s _ _ h⟩)
  · exact .inr h
mutual
theorem dKeep {K : PySem.W.Frag} {H H' : Hp} (s : Same H H') : ∀ {v : V} {d : PyData}, Dp K H v d → Dp K H' v d
  | _, _, .non => .non
  | _, _, .bl b => .bl b
  | _, _, .int i => .int i
  | _, _, .str x => .str x
  | _, _, .lst h k => .lst (s.seq h) (dsKeep s k)
  | _, _, .tup h k => .tup (sameDp s h) (dsKeep s k)
theorem dsKeep {K : PySem.W.Frag} {H H' : Hp} (s : Same H H') : ∀ {vs : List V} {ds : List PyData}, DpAll K H vs ds → DpAll K H' vs ds
  | _, _, .nil => .nil
  | _, _, .cons a b => .cons (dKeep s a) (dsKeep s b)
end
theorem dsLen {K : PySem.W.Frag} {H : Hp} : ∀ {xs : List V} {ds : List PyData}, DpAll K H xs ds → xs.length = ds.length
  | _, _, .nil => rfl
  | _, _, .cons _ b => congrArg Nat.succ (dsLen b)
theorem dsApp {K : PySem.W.Frag} {H : Hp} : ∀ {xs ys : List V} {ds es : List PyData}, DpAll K H xs ds → DpAll K H ys es → DpAll K H (xs ++ ys) (ds ++ es)
  | _, _, _, _, .nil, h => h
  | _, _, _, _, .cons a b, h => .cons a (dsApp b h)
theorem dsAt {K : PySem.W.Frag} {H : Hp} : ∀ {xs : List V} {ds : List PyData}, DpAll K H xs ds → ∀ (i : Nat) (x : V), xs[i]? = some x → ∃ d, ds[i]? = some d ∧ Dp K H x d
  | _, _, .nil, i, x, h => by simp at h
  | _, _, .cons (d := d) a b, 0, x, h => by
    simp at h
    subst h
    exact ⟨d, rfl, a⟩
  | _, _, .cons a b, i + 1, x, h => dsAt b i x (by simpa using h)
theorem dsDrop {K : PySem.W.Frag} {H : Hp} : ∀ (n : Nat) {xs : List V} {ds : List PyData}, DpAll K H xs ds → DpAll K H (xs.drop n) (ds.drop n)
  | 0, _, _, h => h
  | n + 1, _, _, .nil => .nil
  | n + 1, _, _, .cons _ b => dsDrop n b
theorem dsTake {K : PySem.W.Frag} {H : Hp} : ∀ (n : Nat) {xs : List V} {ds : List PyData}, DpAll K H xs ds → DpAll K H (xs.take n) (ds.take n)
  | 0, _, _, _ => .nil
  | n + 1, _, _, .nil => .nil
  | n + 1, _, _, .cons a b => .cons a (dsTake n b)
theorem dsRev {K : PySem.W.Frag} {H : Hp} : ∀ {xs : List V} {ds : List PyData}, DpAll K H xs ds → DpAll K H xs.reverse ds.reverse
  | _, _, .nil => .nil
  | _, _, .cons a b => by
    rw [List.reverse_cons, List.reverse_cons]
    exact dsApp (dsRev b) (.cons a .nil)
/-- an expression that makes this data, and changes nothing -/
def DE (K : PySem.W.Frag) (t : TE) (d : PyData) : Prop := ∀ (σ : L2.St) (H : Hp) (Q : VK), (∀ (v : V) (H' : Hp), Same H H' → Dp K H' v d → Q v H') → t σ H Q
def DA (K : PySem.W.Frag) (t : TA) (ds : List PyData) : Prop := ∀ (σ : L2.St) (H : Hp) (Q : List V → Hp → Prop), (∀ (vs : List V) (H' : Hp), Same H H' → DpAll K H' vs ds → Q vs H') → t σ H Q
/-- a new list of this data -/
def DL (K : PySem.W.Frag) (t : TE) (ds : List PyData) : Prop := ∀ (σ : L2.St) (H : Hp) (Q : VK), (∀ (l : Addr) (vs : List V) (H' : Hp), Same H H' → H l = none → H' l = some (.lst vs) → DpAll K H' vs ds → Q (.ref l) H') → t σ H Q
section
variable {K : PySem.W.Frag} {t u : TE} {ta : TA} {d : PyData} {ds es : List PyData}
theorem de_non : DE K (tC .non) .none := fun _ H _ q => q _ H (Same.refl H) .non
theorem de_bl {b : Bool} : DE K (tC (.bl b)) (.bool b) := fun _ H _ q => q _ H (Same.refl H) (.bl b)
theorem de_int {i : Int} : DE K (tC (.int i)) (.int i) := fun _ H _ q => q _ H (Same.refl H) (.int i)
theorem de_str {x : Str} : DE K (tC (.str x)) (.str x) := fun _ H _ q => q _ H (Same.refl H) (.str x)
theorem de_neg {i : Int} : DE K (tUn (rU fun i => .int (-i)) (tC (.int i))) (.int (-i)) := fun _ H _ q => ⟨i, rfl, q _ H (Same.refl H) (.int _)⟩
theorem de_big {i j : Int} (h : CPow i j := by exact ⟨by decide, by decide, by decide⟩) : DE K (tOp (rI CPow fun i j => .int (i ^ j.toNat)) (tC (.int i)) (tC (.int j))) (.int (i ^ j.toNat)) := fun _ H _ q => ⟨i, j, rfl, rfl, h, q _ H (Same.refl H) (.int _)⟩
theorem da_nil : DA K tNil [] := fun _ H _ q => q _ H (Same.refl H) .nil
theorem da_cons (h : DE K t d) (k : DA K ta ds) : DA K (tCons t ta) (d :: ds) := fun σ H Q q => h σ H _ fun v H1 s1 d1 => k σ H1 _ fun vs H2 s2 d2 => q _ H2 (s1.trans s2) (.cons (dKeep s2 d1) d2)
theorem de_tup (h : DA K ta ds) (few : ds.length ≤ 1000) : DE K (tTup ta) (.tuple ds) := fun σ H Q q => h σ H _ fun vs H1 s1 d1 => by
  refine ⟨by rw [dsLen d1]; exact Nat.le_trans few (by decide), fun p np => ?_⟩
  have s2 := same_new (o := .tup vs) np
  exact q _ _ (s1.trans s2) (.tup (.inl (.inl upd_same)) (dsKeep s2 d1))
theorem dl_lst (h : DA K ta ds) (few : ds.length ≤ 1000) : DL K (tLst ta) ds := fun σ H Q q => h σ H _ fun vs H1 s1 d1 => by
  refine ⟨by rw [dsLen d1]; exact Nat.le_trans few (by decide), fun p np => ?_⟩
  have s2 := same_new (o := .lst vs) np
  exact q p vs _ (s1.trans s2) (s1.free np) upd_same (dsKeep s2 d1)
theorem de_lst (h : DA K ta ds) (few : ds.length ≤ 1000) : DE K (tLst ta) (.list ds) := fun σ H Q q => dl_lst h few σ H Q fun l vs H' s _ e d => q _ H' s (.lst (.inl (.inl e)) d)
theorem dl_cat (h : DL K t ds) (k : DL K u es) (few : ds.length + es.length ≤ 1000) : DL K (tOp rCat t u) (ds ++ es) := fun σ H Q q => h σ H _ fun l vs H1 s1 n1 e1 d1 => k σ H1 _ fun r ws H2 s2 n2 e2 d2 => by
  refine ⟨l, r, vs, ws, rfl, rfl, s2 _ _ e1, e2, by rw [dsLen d1, dsLen d2]; exact Nat.le_trans few (by decide), fun p np => ?_⟩
  have s3 := same_new (o := .lst (vs ++ ws)) np
  exact q p _ _ ((s1.trans s2).trans s3) ((s1.trans s2).free np) upd_same (dsKeep s3 (dsApp (dsKeep s2 d1) d2))
theorem dl_grow {l : Addr} {vs : List V} {H0 : Hp} {Q : VK} {σ : L2.St} (e : H0 l = some (.lst vs)) (d1 : DpAll K H0 vs ds) (ht : ∀ R : VK, R (.ref l) H0 → t σ H0 R) (k : DL K u es) (few : ds.length + es.length ≤ 1000)
    (q : ∀ (p : Addr) (ws : List V) (H' : Hp), Same H0 H' → H0 p = none → H' p = some (.lst ws) → DpAll K H' ws (ds ++ es) → Q (.ref p) H') : tOp rCat t u σ H0 Q := ht _ (k σ H0 _ fun r ws H2 s2 n2 e2 d2 => by
  refine ⟨l, r, vs, ws, rfl, rfl, s2 _ _ e, e2, by rw [dsLen d1, dsLen d2]; exact Nat.le_trans few (by decide), fun p np => ?_⟩
  have s3 := same_new (o := .lst (vs ++ ws)) np
  exact q p _ _ (s2.trans s3) (s2.free np) upd_same (dsKeep s3 (dsApp (dsKeep s2 d1) d2)))
end
/-! ### isinstance of a tuple -/
def tupB : PyData → Bool
  | .tuple _ => true
  | _ => false
theorem kit_tup {K : PySem.W.Frag} {d : PyData} : PySem.W.kitOne K (.type (tyName d)) (.type "tuple") = some (tupB d) := by
  cases d with
  | none => exact kit_ty (K := K) (a := "NoneType") (b := "tuple") (r := false) (by decide +kernel)
  | bool _ => exact kit_ty (K := K) (a := "bool") (b := "tuple") (r := false) (by decide +kernel)
  | int _ => exact kit_ty (K := K) (a := "int") (b := "tuple") (r := false) (by decide +kernel)
  | str _ => exact kit_ty (K := K) (a := "str") (b := "tuple") (r := false) (by decide +kernel)
  | list _ => exact kit_ty (K := K) (a := "list") (b := "tuple") (r := false) (by decide +kernel)
  | tuple _ => exact kit_ty (K := K) (a := "tuple") (b := "tuple") (r := true) (by decide +kernel)
  | dict _ => exact kit_ty (K := K) (a := "dict") (b := "tuple") (r := false) (by decide +kernel)
end Kn


/-! Kn: how large data is. -/
namespace Kn
open PySem PySem.Spec PyProof.Rows L2
mutual
def goodD : PyData → Bool
  | .none => true
  | .bool _ => true
  | .int i => decide (i.natAbs < 10 ^ 60)
  | .str x => x.cps.toList.all fun c => decide (c < 128)
  | .list ds => goodDs ds
  | .tuple ds => goodDs ds
  | .dict _ => false
def goodDs : List PyData → Bool
  | [] => true
  | d :: r => goodD d && goodDs r
end
mutual
def nodesD : PyData → Nat
  | .none => 1
  | .bool _ => 1
  | .int _ => 1
  | .str x => 1 + x.length
  | .list ds => 1 + nodesDs ds
  | .tuple ds => 1 + nodesDs ds
  | .dict _ => 1
def nodesDs : List PyData → Nat
  | [] => 0
  | d :: r => nodesD d + nodesDs r
end
theorem good_app : ∀ a b : List PyData, goodDs (a ++ b) = (goodDs a && goodDs b)
  | [], b => by rw [List.nil_append]; show _ = (true && goodDs b); rw [Bool.true_and]
  | d :: r, b => by
    show (goodD d && goodDs (r ++ b)) = (goodD d && goodDs r && goodDs b)
    rw [good_app r b, Bool.and_assoc]
theorem nodes_app : ∀ a b : List PyData, nodesDs (a ++ b) = nodesDs a + nodesDs b
  | [], b => by rw [List.nil_append]; show _ = 0 + nodesDs b; rw [Nat.zero_add]
  | d :: r, b => by
    show nodesD d + nodesDs (r ++ b) = nodesD d + nodesDs r + nodesDs b
    rw [nodes_app r b, Nat.add_assoc]
theorem depth_app : ∀ a b : List PyData, PyData.depthAll (a ++ b) = max (PyData.depthAll a) (PyData.depthAll b)
  | [], b => by rw [List.nil_append]; show _ = max 0 (PyData.depthAll b); rw [Nat.zero_max]
  | d :: r, b => by
    show max d.depth (PyData.depthAll (r ++ b)) = max (max d.depth (PyData.depthAll r)) (PyData.depthAll b)
    rw [depth_app r b, Nat.max_assoc]
theorem nodes_len : ∀ ds : List PyData, ds.length ≤ nodesDs ds
  | [] => Nat.le_refl _
  | d :: r => by
    have h := nodes_len r
    have p : 1 ≤ nodesD d := by
      cases d <;> first | exact Nat.le_refl 1 | exact Nat.le_add_right 1 _
    show r.length + 1 ≤ nodesD d + nodesDs r
    omega
/-- few, good and flat enough -/
structure Tm (n k : Nat) (ds : List PyData) : Prop where
  g : goodDs ds = true
  n : nodesDs ds ≤ n
  d : PyData.depthAll ds ≤ k
theorem Tm.mono {n k n' k' : Nat} {ds : List PyData} (h : Tm n k ds) (a : n ≤ n') (b : k ≤ k') : Tm n' k' ds := ⟨h.g, Nat.le_trans h.n a, Nat.le_trans h.d b⟩
theorem Tm.app {n m k : Nat} {a b : List PyData} (h : Tm n k a) (j : Tm m k b) : Tm (n + m) k (a ++ b) :=
  ⟨by rw [good_app, h.g, j.g]; rfl, by rw [nodes_app]; exact Nat.add_le_add h.n j.n, by rw [depth_app]; exact Nat.max_le.mpr ⟨h.d, j.d⟩⟩
theorem Tm.nil (n k : Nat) : Tm n k [] := ⟨rfl, Nat.zero_le _, Nat.zero_le _⟩
theorem Tm.split {n k : Nat} {a b : List PyData} (h : Tm n k (a ++ b)) : ∃ x y, x + y ≤ n ∧ Tm x k a ∧ Tm y k b := by
  have g := h.g
  rw [good_app] at g
  obtain ⟨g1, g2⟩ := Bool.and_eq_true_iff.mp g
  have nn := h.n
  rw [nodes_app] at nn
  have dd := h.d
  rw [depth_app] at dd
  obtain ⟨d1, d2⟩ := Nat.max_le.mp dd
  exact ⟨_, _, nn, ⟨g1, Nat.le_refl _, d1⟩, ⟨g2, Nat.le_refl _, d2⟩⟩
theorem Tm.cut {n k : Nat} {ds : List PyData} (h : Tm n k ds) (i : Nat) : ∃ x y, x + y ≤ n ∧ Tm x k (ds.take i) ∧ Tm y k (ds.drop i) := Tm.split (by rw [List.take_append_drop]; exact h)
theorem Tm.take {n k : Nat} {ds : List PyData} (h : Tm n k ds) (i : Nat) : Tm n k (ds.take i) := by
  obtain ⟨x, y, l, a, _⟩ := h.cut i
  exact a.mono (by omega) (Nat.le_refl _)
theorem Tm.drop {n k : Nat} {ds : List PyData} (h : Tm n k ds) (i : Nat) : Tm n k (ds.drop i) := by
  obtain ⟨x, y, l, _, b⟩ := h.cut i
  exact b.mono (by omega) (Nat.le_refl _)
theorem Tm.rev {n k : Nat} : ∀ {ds : List PyData}, Tm n k ds → Tm n k ds.reverse := by
  have all : ∀ ds : List PyData, goodDs ds.reverse = goodDs ds ∧ nodesDs ds.reverse = nodesDs ds ∧ PyData.depthAll ds.reverse = PyData.depthAll ds := by
    intro ds
    induction ds with
    | nil => exact ⟨rfl, rfl, rfl⟩
    | cons d r ih =>
      obtain ⟨a, b, c⟩ := ih
      rw [List.reverse_cons, good_app, nodes_app, depth_app, a, b, c]
      refine ⟨?_, ?_, ?_⟩
      · show (goodDs r && (goodD d && true)) = (goodD d && goodDs r)
        rw [Bool.and_true, Bool.and_comm]
      · show nodesDs r + (nodesD d + 0) = nodesD d + nodesDs r
        omega
      · show max (PyData.depthAll r) (max d.depth 0) = max d.depth (PyData.depthAll r)
        rw [Nat.max_zero, Nat.max_comm]
  intro ds h
  obtain ⟨a, b, c⟩ := all ds
  exact ⟨by rw [a]; exact h.g, by rw [b]; exact h.n, by rw [c]; exact h.d⟩
theorem Tm.one {n k : Nat} {d : PyData} (g : goodD d = true) (hn : nodesD d ≤ n) (hk : d.depth ≤ k) : Tm n k [d] := by
  refine ⟨?_, ?_, ?_⟩
  · show (goodD d && true) = true
    rw [g]
    rfl
  · show nodesD d + 0 ≤ n
    omega
  · show max d.depth 0 ≤ k
    omega
theorem Tm.get {n k : Nat} {ds : List PyData} (h : Tm n k ds) {i : Nat} {d : PyData} (e : ds[i]? = some d) : goodD d = true ∧ nodesD d ≤ n ∧ d.depth ≤ k := by
  have q := (h.drop i).take 1
  have e2 : (ds.drop i).take 1 = [d] := by
    rw [List.take_one, List.head?_drop, e]
    rfl
  rw [e2] at q
  obtain ⟨g, b, c⟩ := q
  refine ⟨?_, ?_, ?_⟩
  · have g : (goodD d && true) = true := g
    rw [Bool.and_true] at g
    exact g
  · have b : nodesD d + 0 ≤ n := b
    omega
  · have c : max d.depth 0 ≤ k := c
    omega
end Kn


/-! Kn: what good data shows, and that it can be compared. -/
namespace Kn
open PySem PySem.Spec PyProof.Rows L2
theorem ascii_fit {x : Str} (h : (x.cps.toList.all fun c => decide (c < 128)) = true) : Fit x.length x := ⟨Nat.le_refl _, fun c hc => Nat.lt_trans (of_decide_eq_true (List.all_eq_true.mp h c hc)) (by decide)⟩
theorem sum_map {ds : List Str} : (ds.map (·.length)).sum = (ds.map (·.length)).sum := rfl
mutual
theorem good_shown : ∀ d : PyData, goodD d = true → d.showable = true ∧ d.hasDict = false ∧ d.shown.length + 2 ≤ 80 * nodesD d
  | .none, _ => ⟨rfl, rfl, by decide +kernel⟩
  | .bool b, _ => by
    refine ⟨rfl, rfl, ?_⟩
    cases b <;> decide +kernel
  | .int i, h => by
    have h : i.natAbs < 10 ^ 60 := of_decide_eq_true h
    refine ⟨by show decide _ = true; exact decide_eq_true (fee_log h), rfl, ?_⟩
    have q : (feeT i).length ≤ 61 := (feeT_fit h).1
    show (feeT i).length + 2 ≤ 80 * 1
    omega
  | .str x, h => by
    refine ⟨rfl, rfl, ?_⟩
    have q := StrLaws.reprText_len x (ascii_fit h).2
    show (reprText x).length + 2 ≤ 80 * (1 + x.length)
    omega
  | .list ds, h => by
    obtain ⟨a, b, c, e⟩ := good_all ds h
    refine ⟨a, b, ?_⟩
    have q := listText_len_le (PyData.shownAll ds)
    rw [e] at q
    show (listText (PyData.shownAll ds)).length + 2 ≤ 80 * (1 + nodesDs ds)
    omega
  | .tuple ds, h => by
    obtain ⟨a, b, c, e⟩ := good_all ds h
    refine ⟨a, b, ?_⟩
    have q := tupleText_len_le (PyData.shownAll ds)
    rw [e] at q
    show (tupleText (PyData.shownAll ds)).length + 2 ≤ 80 * (1 + nodesDs ds)
    omega
  | .dict _, h => by cases h
theorem good_all : ∀ ds : List PyData, goodDs ds = true → PyData.showableAll ds = true ∧ PyData.hasDictAll ds = false ∧ ((PyData.shownAll ds).map (·.length)).sum + 2 * ds.length ≤ 80 * nodesDs ds ∧ (PyData.shownAll ds).length = ds.length
  | [], _ => ⟨rfl, rfl, Nat.zero_le _, rfl⟩
  | d :: r, h => by
    have h : (goodD d && goodDs r) = true := h
    obtain ⟨h1, h2⟩ := Bool.and_eq_true_iff.mp h
    obtain ⟨a1, b1, c1⟩ := good_shown d h1
    obtain ⟨a2, b2, c2, e2⟩ := good_all r h2
    refine ⟨?_, ?_, ?_, ?_⟩
    · show (d.showable && PyData.showableAll r) = true
      rw [a1, a2]
      rfl
    · show (d.hasDict || PyData.hasDictAll r) = false
      rw [b1, b2]
      rfl
    · show ((d.shown :: PyData.shownAll r).map (·.length)).sum + 2 * (r.length + 1) ≤ 80 * (nodesD d + nodesDs r)
      rw [List.map_cons, List.sum_cons]
      omega
    · show (d.shown :: PyData.shownAll r).length = r.length + 1
      rw [List.length_cons, e2]
end
mutual
theorem good_lay : ∀ d : PyData, goodD d = true → d.canLay0 = true
  | .none, _ => rfl
  | .bool _, _ => rfl
  | .int _, _ => rfl
  | .str x, h => by
    show x.cps.all (· < 0x110000) = true
    rw [← Array.all_toList]
    exact List.all_eq_true.mpr fun c hc => decide_eq_true (Nat.lt_trans (of_decide_eq_true (List.all_eq_true.mp h c hc)) (by decide))
  | .list ds, h => good_lays ds h
  | .tuple ds, h => good_lays ds h
  | .dict _, h => by cases h
theorem good_lays : ∀ ds : List PyData, goodDs ds = true → PyData.canLayAll0 ds = true
  | [], _ => rfl
  | d :: r, h => by
    have h : (goodD d && goodDs r) = true := h
    obtain ⟨h1, h2⟩ := Bool.and_eq_true_iff.mp h
    show (d.canLay0 && PyData.canLayAll0 r) = true
    rw [good_lay d h1, good_lays r h2]
    rfl
end
theorem good_shaped {d : PyData} (h : goodD d = true) (l : d.depth ≤ 64) : SeqAt.shaped d = true := by
  unfold SeqAt.shaped
  rw [good_lay d h, decide_eq_true l]
  rfl
end Kn


/-! Kn: names, tables, kinds among any data. -/
namespace Kn
open PySem PySem.Spec PyProof.Rows L2
def lowB (x : Str) : Bool := x.cps.toList.all fun c => decide (97 ≤ c ∧ c ≤ 122)
def nameB : PyData → Bool
  | .str x => decide (1 ≤ x.length) && decide (x.length ≤ 8) && lowB x
  | _ => false
def ltD : PyData → PyData → Bool
  | .str x, .str y => decide (x.cps.toList < y.cps.toList)
  | _, _ => false
/-- the k-th is a name, and behind the one ahead of it -/
def okAt (ds : List PyData) (k : Nat) : Bool := nameB (ds.getD k .none) && (k == 0 || ltD (ds.getD (k - 1) .none) (ds.getD k .none))
def rowB : PyData → Bool
  | .tuple ds => (List.range ds.length).all (okAt ds)
  | _ => false
def kindB : PyData → Bool
  | .tuple [n, f, h, t] => nameB n && posB f && boolB h && rowB t
  | _ => false
def part (d : PyData) (k : Nat) : PyData := match d with
  | .tuple ds => ds.getD k .none
  | _ => .none
/-- the k-th is a kind, and behind the one ahead of it -/
def kindAt (ds : List PyData) (k : Nat) : Bool := kindB (ds.getD k .none) && (k == 0 || ltD (part (ds.getD (k - 1) .none) 0) (part (ds.getD k .none) 0))
theorem sign_facts : ∀ c : Nat, c < 128 → (Unicode.isAlpha c = (Unicode.isLower c || Unicode.isUpper c)) ∧ Unicode.isTitle c = false ∧ Unicode.isLower c = decide (97 ≤ c ∧ c ≤ 122) ∧ (Unicode.isLower c = true → Unicode.isUpper c = false) := by
  have all : ((List.range 128).all fun c => decide (Unicode.isAlpha c = (Unicode.isLower c || Unicode.isUpper c)) && decide (Unicode.isTitle c = false) && decide (Unicode.isLower c = decide (97 ≤ c ∧ c ≤ 122)) && (!Unicode.isLower c || !Unicode.isUpper c)) = true := by decide +kernel
  intro c hc
  have q := List.all_eq_true.mp all c (List.mem_range.mpr hc)
  obtain ⟨q, q4⟩ := Bool.and_eq_true_iff.mp q
  obtain ⟨q, q3⟩ := Bool.and_eq_true_iff.mp q
  obtain ⟨q1, q2⟩ := Bool.and_eq_true_iff.mp q
  refine ⟨of_decide_eq_true q1, of_decide_eq_true q2, of_decide_eq_true q3, fun z => ?_⟩
  rw [z] at q4
  simpa using q4
theorem low_is {x : Str} (h : (x.cps.toList.all fun c => decide (c < 128)) = true) : (Txt.isalpha x && Txt.islower x) = (decide (1 ≤ x.length) && lowB x) := by
  have e1 : Txt.isalpha x = (decide (x.length > 0) && x.cps.toList.all Unicode.isAlpha) := by
    show (decide (x.length > 0) && x.cps.all Unicode.isAlpha) = _
    rw [← Array.all_toList]
  have e2 : Txt.islower x = (x.cps.toList.any Unicode.isLower && !x.cps.toList.any fun c => Unicode.isUpper c || Unicode.isTitle c) := by
    show (x.cps.any Unicode.isLower && !x.cps.any fun c => Unicode.isUpper c || Unicode.isTitle c) = _
    rw [← Array.any_toList, ← Array.any_toList]
  have el : x.length = x.cps.toList.length := by
    show x.cps.size = _
    rw [← Array.length_toList]
  rw [e1, e2, el]
  unfold lowB
  generalize x.cps.toList = l at h
  have all : ∀ l : List Nat, (l.all fun c => decide (c < 128)) = true → (l.all Unicode.isAlpha && !l.any fun c => Unicode.isUpper c || Unicode.isTitle c) = l.all fun c => decide (97 ≤ c ∧ c ≤ 122) := by
    intro l
    induction l with
    | nil => exact fun _ => rfl
    | cons c r ih =>
      intro h
      obtain ⟨h1, h2⟩ := Bool.and_eq_true_iff.mp (show (decide (c < 128) && r.all fun c => decide (c < 128)) = true from h)
      obtain ⟨f1, f2, f3, f4⟩ := sign_facts c (of_decide_eq_true h1)
      have ih := ih h2
      show ((Unicode.isAlpha c && r.all Unicode.isAlpha) && !((Unicode.isUpper c || Unicode.isTitle c) || r.any fun c => Unicode.isUpper c || Unicode.isTitle c)) = (decide (97 ≤ c ∧ c ≤ 122) && r.all fun c => decide (97 ≤ c ∧ c ≤ 122))
      rw [← ih, ← f3, f1, f2]
      revert f4
      cases Unicode.isLower c <;> cases Unicode.isUpper c <;> cases r.all Unicode.isAlpha <;> cases (r.any fun c => Unicode.isUpper c || Unicode.isTitle c) <;> simp
  cases l with
  | nil => rfl
  | cons c r =>
    have q := all (c :: r) h
    rw [← q]
    have pos : decide ((c :: r).length > 0) = true := decide_eq_true (Nat.succ_pos _)
    have pos2 : decide (1 ≤ (c :: r).length) = true := decide_eq_true (Nat.succ_pos _)
    rw [pos, pos2, Bool.true_and, Bool.true_and]
    obtain ⟨h1, h2⟩ := Bool.and_eq_true_iff.mp (show (decide (c < 128) && r.all fun c => decide (c < 128)) = true from h)
    obtain ⟨f1, f2, f3, f4⟩ := sign_facts c (of_decide_eq_true h1)
    show ((Unicode.isAlpha c && r.all Unicode.isAlpha) && ((Unicode.isLower c || r.any Unicode.isLower) && !((Unicode.isUpper c || Unicode.isTitle c) || r.any fun c => Unicode.isUpper c || Unicode.isTitle c))) = ((Unicode.isAlpha c && r.all Unicode.isAlpha) && !((Unicode.isUpper c || Unicode.isTitle c) || r.any fun c => Unicode.isUpper c || Unicode.isTitle c))
    rw [f1, f2]
    cases Unicode.isLower c <;> cases Unicode.isUpper c <;> cases r.all Unicode.isAlpha <;> cases (r.any fun c => Unicode.isUpper c || Unicode.isTitle c) <;> simp
end Kn


/-! Kn: a comprehension with a filter over a tuple; a text among texts. -/
namespace Kn
open PySem PySem.Spec PyProof.Rows L2
theorem lc_pickT {K : PySem.W.Frag} {a : Addr} {xs : List V} {slot : Nat} {te tl : TE} {tt : TT} {vs : List Nat} {σ : L2.St} {H : Hp} {Q : VK} (ys : List (Bool × V)) (hl : ys.length = xs.length) (hs : xs.length ≤ 1000) (hT : SqT K H a xs)
    (htl : ∀ R : VK, R (.ref a) H → tl σ H R) (w : ∀ v, wipe ((wipe σ vs).set slot (some v)) vs = wipe σ vs)
    (test : ∀ (i : Nat) (x : V) (b : Bool) (y : V) (G : Hp) (R : Bool → Hp → Prop), xs[i]? = some x → ys[i]? = some (b, y) → Same H G → R b G → tt ((wipe σ vs).set slot (some x)) G R)
    (turn : ∀ (i : Nat) (x : V) (b : Bool) (y : V) (G : Hp) (R : VK), xs[i]? = some x → ys[i]? = some (b, y) → Same H G → R y G → te ((wipe σ vs).set slot (some x)) G R)
    (done : ∀ (D : Addr) (G : Hp), H D = none → Same H G → G D = some (.lst ((ys.filter (·.1)).map (·.2))) → Q (.ref D) G) : tLc (iTup K tl) (gName slot) tt te vs σ H Q := by
  refine htl _ ⟨a, rfl, ⟨xs, hT⟩, fun D nD => ?_⟩
  refine lc_tup (K := K) (a := a) (xs := xs) (fun i G => Same H G ∧ G D = some (.lst (((ys.take i).filter (·.1)).map (·.2)))) ⟨same_new nD, upd_same⟩ (fun i G _ h => tupS h.1 hT) ?_ ?_
  · rintro i x G hx ⟨sm, hD⟩
    have hi : i < xs.length := (List.getElem?_eq_some_iff.mp hx).1
    have hy : ys[i]? = some (ys[i]'(by omega)) := List.getElem?_eq_getElem (by omega)
    have et : ys.take (i + 1) = ys.take i ++ [ys[i]'(by omega)] := by
      rw [List.take_add_one, hy]
      rfl
    refine ⟨w x, ?_⟩
    generalize ys[i]'(by omega) = by_ at hy et
    obtain ⟨b, y⟩ := by_
    refine test i x b y G _ hx hy sm ?_
    cases b
    · refine iteF ⟨sm, ?_⟩
      rw [hD, et, List.filter_append]
      simp
    · refine iteT (turn i x true y G _ hx hy sm ⟨_, hD, ?_, putS sm nD, ?_⟩)
      · rw [List.length_map]
        have := List.length_filter_le (·.1) (ys.take i)
        rw [List.length_take] at this
        exact small' (by omega)
      · rw [upd_same, et, List.filter_append, List.map_append]
        rfl
  · rintro G ⟨sm, hD⟩
    refine done D G nD sm ?_
    rw [hD, List.take_of_length_le (by omega)]
theorem inV_strs (n : Str) : ∀ t : List Str, inV (.str n) (t.map V.str) = decide (n ∈ t)
  | [] => by
    symm
    simp [inV]
  | a :: r => by
    have ih := inV_strs n r
    show ((a == n) || inV (.str n) (r.map V.str)) = _
    rw [ih]
    by_cases h : a = n
    · simp [h]
    · have h2 : ¬ n = a := fun z => h z.symm
      simp [h, h2]
theorem flat_strs (t : List Str) : (t.map V.str).all flatV = true := by
  simp [flatV]
end Kn


/-! Kn: a filter over a tuple whose test may make objects; rows of names. -/
namespace Kn
open PySem PySem.Spec PyProof.Rows L2
theorem lc_filtT {K : PySem.W.Frag} {a : Addr} {xs : List V} {slot : Nat} {te tl : TE} {tt : TT} {vs : List Nat} {σ : L2.St} {H : Hp} {Q : VK} (f : PyData → Bool) (ds : List PyData) (hT : SqT K H a xs) (hd : DpAll K H xs ds) (few : xs.length ≤ 1000)
    (htl : ∀ R : VK, R (.ref a) H → tl σ H R) (w : ∀ v, wipe ((wipe σ vs).set slot (some v)) vs = wipe σ vs)
    (test : ∀ (i : Nat) (x : V) (d : PyData) (G : Hp) (R : Bool → Hp → Prop), xs[i]? = some x → ds[i]? = some d → Dp K G x d → Same H G → (∀ G', Same G G' → R (f d) G') → tt ((wipe σ vs).set slot (some x)) G R)
    (turn : ∀ (x : V) (G : Hp) (R : VK), R x G → te ((wipe σ vs).set slot (some x)) G R)
    (done : ∀ (D : Addr) (ws : List V) (G : Hp), H D = none → Same H G → G D = some (.lst ws) → DpAll K G ws (ds.filter f) → Q (.ref D) G) : tLc (iTup K tl) (gName slot) tt te vs σ H Q := by
  refine htl _ ⟨a, rfl, ⟨xs, hT⟩, fun D nD => ?_⟩
  refine lc_tup (K := K) (a := a) (xs := xs) (fun i G => Same H G ∧ ∃ ws, G D = some (.lst ws) ∧ DpAll K H ws ((ds.take i).filter f)) ⟨same_new nD, [], upd_same, .nil⟩ (fun i G _ h => tupS h.1 hT) ?_ ?_
  · rintro i x G hx ⟨sm, ws, eD, hw⟩
    have hi : i < xs.length := (List.getElem?_eq_some_iff.mp hx).1
    obtain ⟨d, hdi, dp⟩ := dsAt hd i x hx
    have et : (ds.take (i + 1)).filter f = (ds.take i).filter f ++ (if f d = true then [d] else []) := by
      rw [List.take_add_one, hdi, List.filter_append]
      show _ ++ [d].filter f = _
      rw [List.filter_cons]
      cases f d <;> rfl
    refine ⟨w x, ?_⟩
    refine test i x d G _ hx hdi (dKeep sm dp) sm fun G' s' => ?_
    cases z : f d
    · refine iteF ⟨sm.trans s', ws, s' _ _ eD, ?_⟩
      rw [et, z]
      simpa using hw
    · refine iteT (turn x G' _ ⟨ws, s' _ _ eD, ?_, putS (sm.trans s') nD, ws ++ [x], upd_same, ?_⟩)
      · have h1 := dsLen hw
        have h2 := List.length_filter_le f (ds.take i)
        have h3 := dsLen hd
        rw [List.length_take] at h2
        exact small' (by omega)
      · rw [et, z]
        exact dsApp hw (.cons dp .nil)
  · rintro G ⟨sm, ws, eD, hw⟩
    rw [List.take_of_length_le (by rw [dsLen hd]; exact Nat.le_refl _)] at hw
    exact done D ws G nD sm eD (dsKeep sm hw)
theorem eqv_nil2 (ds : List PyData) : PyData.eqv (.list ds) (.list []) = ds.isEmpty := by
  cases ds with
  | nil => rfl
  | cons d r => rfl
theorem filter_none {α : Type} (f : α → Bool) : ∀ ds : List α, (ds.filter fun d => !f d).isEmpty = ds.all f
  | [] => rfl
  | d :: r => by
    rw [List.filter_cons, List.all_cons]
    cases f d
    · rfl
    · exact filter_none f r
theorem goodFilter (b : PyData → Bool) : ∀ {ds : List PyData}, goodDs ds = true → goodDs (ds.filter b) = true
  | [], _ => rfl
  | d :: r, h => by
    obtain ⟨h1, h2⟩ := Bool.and_eq_true_iff.mp (show (goodD d && goodDs r) = true from h)
    have ih := goodFilter b h2
    rw [List.filter_cons]
    cases b d
    · exact ih
    · show (goodD d && goodDs (r.filter b)) = true
      rw [h1, ih]
      rfl
theorem depthFilter (b : PyData → Bool) : ∀ (ds : List PyData), PyData.depthAll (ds.filter b) ≤ PyData.depthAll ds
  | [] => Nat.le_refl _
  | d :: r => by
    have ih := depthFilter b r
    rw [List.filter_cons]
    show _ ≤ max d.depth (PyData.depthAll r)
    cases b d
    · exact Nat.le_trans ih (Nat.le_max_right _ _)
    · show max d.depth (PyData.depthAll (r.filter b)) ≤ _
      omega
theorem gd_at {ds : List PyData} {k : Nat} {d : PyData} (h : ds[k]? = some d) : ds.getD k .none = d := by
  rw [List.getD_eq_getElem?_getD, h]
  rfl
theorem row_no {ds : List PyData} {k : Nat} (hk : k < ds.length) (h : okAt ds k = false) : rowB (.tuple ds) = false := by
  show (List.range ds.length).all (okAt ds) = false
  rw [List.all_eq_false]
  exact ⟨k, List.mem_range.mpr hk, by rw [h]; exact Bool.false_ne_true⟩
theorem row_yes {ds : List PyData} (h : ∀ k, k < ds.length → okAt ds k = true) : rowB (.tuple ds) = true :=
  List.all_eq_true.mpr fun k hk => h k (List.mem_range.mp hk)
theorem row_split (ds : List PyData) : rowB (.tuple ds) = (ds.all nameB && (List.range (ds.length - 1)).all fun j => ltD (ds.getD j .none) (ds.getD (j + 1) .none)) := by
  rw [Bool.eq_iff_iff, Bool.and_eq_true]
  constructor
  · intro h
    have h : ∀ k, k < ds.length → okAt ds k = true := fun k hk => List.all_eq_true.mp h k (List.mem_range.mpr hk)
    refine ⟨List.all_eq_true.mpr fun d hd => ?_, List.all_eq_true.mpr fun j hj => ?_⟩
    · obtain ⟨k, hk, e⟩ := List.getElem_of_mem hd
      have q := (Bool.and_eq_true_iff.mp (h k hk)).1
      rw [gd_at (List.getElem?_eq_getElem hk), e] at q
      exact q
    · have hj := List.mem_range.mp hj
      have q := (Bool.and_eq_true_iff.mp (h (j + 1) (by omega))).2
      rw [Bool.or_eq_true] at q
      rcases q with q | q
      · exact absurd (beq_iff_eq.mp q) (by omega)
      · exact q
  · rintro ⟨h1, h2⟩
    refine row_yes fun k hk => ?_
    have q1 := List.all_eq_true.mp h1 _ (List.getElem_mem hk)
    show (nameB (ds.getD k .none) && (k == 0 || ltD (ds.getD (k - 1) .none) (ds.getD k .none))) = true
    rw [gd_at (List.getElem?_eq_getElem hk), q1, Bool.true_and]
    cases k with
    | zero => rfl
    | succ j =>
      have q2 := List.all_eq_true.mp h2 j (List.mem_range.mpr (by omega))
      rw [gd_at (List.getElem?_eq_getElem hk)] at q2
      show (false || ltD (ds.getD j .none) ds[j + 1]) = true
      rw [q2]
      rfl
theorem az_in : ∀ c : Nat, c < 128 → decide (c ∈ ("abcdefghijklmnopqrstuvwxyz" : Str).cps.toList) = decide (97 ≤ c ∧ c ≤ 122) := by
  have all : ((List.range 128).all fun c => decide (decide (c ∈ ("abcdefghijklmnopqrstuvwxyz" : Str).cps.toList) = decide (97 ≤ c ∧ c ≤ 122))) = true := by decide +kernel
  intro c hc
  exact of_decide_eq_true (List.all_eq_true.mp all c (List.mem_range.mpr hc))
end Kn


/-! En: enumerate(t), t a tuple. -/
namespace En
open PySem PySem.Spec PyProof.Rows L2
open AutoSeq1 (wpAny_loadPart')
theorem made_tup (t : Addr) (xs : Array Value) (n : Nat) (dct : Option Addr) (sl : Array (Option Value)) :
    Meets (Builtin.«enumerate.__new__» ⟨[.type "enumerate", .ref t], []⟩) (fun _ R s => s.heap.get? t = some { cls := .type "tuple", dict := dct, data := .seq xs n, slots := sl } ∧
      R (.ok (.ret (.ref (s.heap.push { cls := .type "tuple_iterator", data := .fields #[.ref t, .int 0 0] }).objs.size)))
        { s with heap := (s.heap.push { cls := .type "tuple_iterator", data := .fields #[.ref t, .int 0 0] }).push { cls := .type "enumerate", data := .fields #[.none, .bool false, .ref s.heap.objs.size, rawInt 0, .none, .none] } }) :=
  .of_wp fun prog w A R s told => by
    obtain ⟨hp, g, d, tk, os⟩ := s
    obtain ⟨ht, q⟩ := told
    have hsub := sub_enumerate
    have isT : Heap.IsTuple (Shared.heap ⟨hp, g, d, tk, os⟩) t xs := ⟨_, ht, rfl, n, rfl⟩
    wp_walk using wpAny_loadPart' ht
    refine wpAny_stack_any fun st => wpAny_pure ?_
    split
    · rename_i c _ _ _ _ _
      cases (c == Value.type "enumerate") <;> (wp_walk using wpAny_loadPart' ht, wpAny_pyIter_tuple isT; exact ⟨_, rfl, q⟩)
    · wp_walk using wpAny_loadPart' ht, wpAny_pyIter_tuple isT
      exact ⟨_, rfl, q⟩
section
variable {prog : Program} {w : World} {A : Around} {E : Value → Shared → Prop} {s : Shared}
theorem call_tup {t : Addr} {xs : Array Value} {Q : Value → Shared → Prop} (isT : s.heap.IsTuple t xs)
    (q : ∀ h', IsEnum h' (s.heap.objs.size + 1) s.heap.objs.size 0 .none → h'.IsTupleIter s.heap.objs.size t 0 → (∀ b o, s.heap.get? b = some o → h'.get? b = some o) → Q (.ref (s.heap.objs.size + 1)) { s with heap := h' }) :
    wpAny (model prog w) A (call (.type "enumerate") [.ref t]) Q E s := by
  obtain ⟨⟨c, dct, dt, sl⟩, ht, hc, n, hd⟩ := isT
  obtain rfl : c = .type "tuple" := hc
  obtain rfl : dt = .seq xs n := hd
  refine callType_new F.called_enumerate (by decide) (F.typeCall_enumerate_1 _) (F.newCall_enumerate_1 _) (fun obj => F.args_object_init_2 obj _) F.entry_enumerate_new (made_tup t xs n dct sl) ⟨ht, ?_⟩
  have z : (s.heap.push { cls := .type "tuple_iterator", data := .fields #[.ref t, .int 0 0] }).objs.size = s.heap.objs.size + 1 := Heap.size_push ..
  show _ ∧ _
  rw [z]
  have he : IsEnum ((s.heap.push { cls := .type "tuple_iterator", data := .fields #[.ref t, .int 0 0] }).push { cls := .type "enumerate", data := .fields #[.none, .bool false, .ref s.heap.objs.size, rawInt 0, .none, .none] })
      (s.heap.objs.size + 1) s.heap.objs.size 0 .none := by
    have y := Heap.get?_push_size (s.heap.push { cls := .type "tuple_iterator", data := .fields #[.ref t, .int 0 0] }) (o := { cls := .type "enumerate", data := .fields #[.none, .bool false, .ref s.heap.objs.size, rawInt 0, .none, .none] }) rfl
    rw [z] at y
    exact y
  exact ⟨⟨_, he, rfl⟩, q _ he ⟨_, Heap.get?_push_of_some _ (Heap.get?_push_size _ rfl), rfl, rfl⟩ fun _ _ y => Heap.get?_push_of_some _ (Heap.get?_push_of_some _ y)⟩
end
/-- the tuple at a at each turn, the item in a new pair -/
def Itu (K : PySem.W.Frag) (a : Addr) : It :=
  ⟨fun i H => ∃ (xs : List V) (x : V), SqT K H a xs ∧ xs[i]? = some x, fun i H v H' => ∃ T x, v = .ref T ∧ H T = none ∧ H' = upd H T (.tup [.int (i : Nat), x]) ∧ ∀ xs, SqT K H a xs → xs[i]? = some x, fun i H => ∃ xs : List V, SqT K H a xs ∧ xs.length = i⟩
theorem turn_tup {P : Program} {w : World} {K : PySem.W.Frag} {elts : List Expr} {kk : Nat} {tpos : Pos} (a e it : Addr) :
    Turn P w K (.Tuple elts kk tpos) (Itu K a) [e, it] e (fun i h => (∃ old, IsEnum h e it ((i : Nat) : Int) old) ∧ h.IsTupleIter it a i ∧ e ≠ it ∧ a ≠ it ∧ a ≠ e) where
  mem := by simp
  obj := fun i h st b hb => by
    obtain ⟨⟨old, he⟩, ⟨o, ho, hc, hd⟩, _⟩ := st
    rcases (show b = e ∨ b = it by simpa using hb) with rfl | rfl
    · exact ⟨_, he, fun v q => nomatch q⟩
    · exact ⟨o, ho, fun v q => by rw [hd] at q; cases q⟩
  keep := fun i h h' st k => let ⟨⟨old, he⟩, hi, hne, n2, n3⟩ := st; ⟨⟨old, k e (by simp) _ he⟩, hi.at fun o q => k it (by simp) o q, hne, n2, n3⟩
  item := by
    intro X hP hw hK hc i pins s σ H E I hf st hg
    subst hP hw hK
    obtain ⟨⟨old, he⟩, hit, hne, nit, nae⟩ := st
    obtain ⟨xs, x, hq, hx⟩ := hg
    obtain ⟨its, rv, p, hz⟩ := I.tuple hq
    have isT : s.heap.IsTuple a its.toArray := p
    obtain ⟨u, hu, ru⟩ := rv.get hx
    have hel : e < s.heap.objs.size := Heap.lt_size he
    have hil : it < s.heap.objs.size := by obtain ⟨_, q, _⟩ := hit; exact Heap.lt_size q
    have D := Draws.tuple (prog := X.prog) (w := X.w) (A := X.A.in1) (show X.A.in1.handled = none from I.ok.hd hc) it a nit its.toArray
    have hin : i < its.toArray.size := by
      rw [List.size_toArray, ← rv.length]
      exact (List.getElem?_eq_some_iff.mp hx).1
    have nef : e ∉ [it, a] := by
      intro z
      rcases List.mem_cons.mp z with z | z
      · exact hne z
      · exact nae (List.mem_singleton.mp z).symm
    refine wpAny_pyNext_enum_itemD D he ⟨hit, isT⟩ hin hne nef fun y h' tk hy ho st' hT hsz hk => ?_
    have hy : its.toArray[i]? = some y := hy
    have : some u = some y := by rw [← hy, ← hu]; simp
    cases this
    refine ⟨_, rfl, wpAny_letOwnedTupleGo_enum (s := { s with heap := h', toks := tk + 1 }) ho fun h'' he' sb => ?_⟩
    have hT2 : h''.get? s.heap.objs.size = some { cls := .type "tuple", data := .seq #[.int i tk, u] } := (sb.2 _ (Nat.ne_of_gt hel)).trans hT
    have new : ObjOk X.prog X.w (upd H s.heap.objs.size (.tup [.int (i : Nat), x])) h'' s.heap.objs.size (.tup [.int (i : Nat), x]) :=
      ⟨show 2 ≤ sizeLine by decide, [.int i tk, u], .cons ⟨_, rfl⟩ (.cons ru .nil), ⟨_, hT2, rfl, _, rfl⟩⟩
    have I1 : Inv X pins σ (upd H s.heap.objs.size (.tup [.int (i : Nat), x])) { s with heap := h'', toks := tk + 1 } :=
      I.turnedNew (ch := [e, it]) (fun b ob hb q => (sb.2 b (fun z => hb (by simp [z]))).trans (hk b ob (fun z => hb (by simp [z])) (fun z => hb (by simp [z])) q)) hf (Nat.le_refl _) new
    refine ⟨.ref s.heap.objs.size, _, I1, rfl, ⟨_, x, rfl, I.hok.fresh (Nat.le_refl _), rfl, fun ys hy => by rw [I.tuple_inj hy hq]; exact hx⟩, ⟨⟨u, ?_⟩, st'.1.at fun o q => (sb.2 it (Ne.symm hne)).trans q, hne, nit, nae⟩, fun b hb => ?_⟩
    · rw [show ((i + 1 : Nat) : Int) = (i : Int) + 1 by omega]
      exact he'
    · have hb' : b < s.heap.objs.size := by
        rcases (show b = e ∨ b = it by simpa using hb) with rfl | rfl
        · exact hel
        · exact hil
      rw [upd_ne (Nat.ne_of_lt hb')]
      exact (hf b hb).1
  done := by
    intro X hP hw hK hc i pins s σ H E I hf st hg
    subst hP hw hK
    obtain ⟨⟨old, he⟩, hit, hne, nit, nae⟩ := st
    obtain ⟨xs, hq, hx⟩ := hg
    obtain ⟨its, rv, p, hz⟩ := I.tuple hq
    have isT : s.heap.IsTuple a its.toArray := p
    obtain ⟨f0, f1, f2, f3, f4, f5⟩ := hf it (by simp)
    have D := Draws.tuple (prog := X.prog) (w := X.w) (A := X.A.in1) (show X.A.in1.handled = none from I.ok.hd hc) it a nit its.toArray
    have many : its.toArray.size = i := by
      rw [List.size_toArray, ← rv.length]
      exact hx
    exact wpAny_pyNext_enum_endD D he (by rw [many]; exact ⟨hit, isT⟩) fun h' eb => ⟨rfl, I.turned (t' := s.toks) (fun b o hb q => eb b o hb q) f0 f1 f3 f4 f5⟩
  self := fun A i s Q E st h => let ⟨⟨_, he⟩, _⟩ := st; wpAny_pyIter_enum he h
def iEnT (K : PySem.W.Frag) (ta : TA) : TI := fun σ H R => ta σ H fun vs G => ∃ a xs, vs = [.ref a] ∧ SqT K G a xs ∧ R (Itu K a) G
theorem pi_enT {X : Cx} {e : Expr} {ta : TA} {p pos tpos : Pos} {elts : List Expr} {kk : Nat} (hg : Gl X "enumerate") (hm : X.mg "enumerate" = none) (ha : PA X [e] ta) (hs : starEach [e] X.env = [(false, eval e X.env)] := by rfl) :
    PI X (.Tuple elts kk tpos) (.Call (.Name "enumerate" p) [e] [] pos) (iEnT X.K ta) := by
  refine ⟨fun pins s σ H R I told => Call_ (ld_blt I hg hm boot_enumerate (PyProof.Rows.callWith_type1 (thn (ha.run pos pins s σ H _ I told) ?_) hs rfl))⟩
  rintro us s1 ⟨vs, H1, I1, rv, a, xs, rfl, hq, q⟩
  obtain ⟨u, rfl, rfl⟩ := vals1 rv
  obtain ⟨its, rv', isT, room⟩ := I1.tuple hq
  have lta : a < s1.heap.objs.size := by obtain ⟨_, y, _⟩ := isT; exact Heap.lt_size y
  refine call_tup isT fun h' he hit hk => wpAny_pyIter_enum he ?_
  refine ⟨s1.heap.objs.size + 1, [s1.heap.objs.size + 1, s1.heap.objs.size], _, _, H1, rfl, I1.kept (t' := s1.toks) hk, turn_tup a (s1.heap.objs.size + 1) s1.heap.objs.size, ⟨⟨.none, he⟩, hit, Nat.succ_ne_self _, Nat.ne_of_lt lta, Nat.ne_of_lt (Nat.lt_succ_of_lt lta)⟩, fun b hb => ?_, q⟩
  have le : s1.heap.objs.size ≤ b := by
    rcases (show b = s1.heap.objs.size + 1 ∨ b = s1.heap.objs.size by simpa using hb) with rfl | rfl
    · exact Nat.le_succ _
    · exact Nat.le_refl _
  exact I1.fpOk le (I1.hok.fresh le)
theorem walk_enT {K : PySem.W.Frag} {a : Addr} {xs : List V} : Walk (Itu K a) xs.length (fun H => SqT K H a xs) (YPair (fun i => some (.int (i : Nat))) (fun i => xs[i]?)) := by
  refine ⟨fun i _ hi q => ⟨xs, xs[i], q, by simp [hi]⟩, fun _ q => ⟨xs, q, rfl⟩, fun i H v H' _ q y => ?_⟩
  obtain ⟨T, x, h1, h2, h3, h4⟩ := y
  exact ⟨T, .int (i : Nat), x, h1, h2, h3, rfl, h4 xs q⟩
end En


/-! Kn: any data asked for among the texts of a tuple. -/
namespace Kn
open PySem PySem.Spec PyProof.Rows L2
def hasT (ts : List Str) (d : PyData) : Bool := ts.any fun t => PyData.eqv (.str t) d
def rInT (K : PySem.W.Frag) : R2 := fun x y H Q => ∃ (a : Addr) (d : PyData) (ts : List Str), y = .ref a ∧ SqT K H a (ts.map V.str) ∧ Dp K H x d ∧ SeqAt.shaped d = true ∧ (∀ t ∈ ts, SeqAt.shaped (.str t) = true) ∧ Q (.bl (hasT ts d)) H
def rOutT (K : PySem.W.Frag) : R2 := fun x y H Q => ∃ (a : Addr) (d : PyData) (ts : List Str), y = .ref a ∧ SqT K H a (ts.map V.str) ∧ Dp K H x d ∧ SeqAt.shaped d = true ∧ (∀ t ∈ ts, SeqAt.shaped (.str t) = true) ∧ Q (.bl (!hasT ts d)) H
theorem lay_texts : ∀ ts : List Str, (∀ t ∈ ts, SeqAt.shaped (.str t) = true) → PyData.canLayAll0 (ts.map PyData.str) = true ∧ PyData.depthAll (ts.map PyData.str) = 0
  | [], _ => ⟨rfl, rfl⟩
  | t :: r, h => by
    obtain ⟨a, b⟩ := lay_texts r fun x m => h x (List.mem_cons_of_mem _ m)
    have q := SeqAt.canLay_of_shaped (h t (List.mem_cons_self ..))
    refine ⟨?_, ?_⟩
    · show (PyData.canLay0 (.str t) && PyData.canLayAll0 (r.map PyData.str)) = true
      rw [q, a]
      rfl
    · show max (PyData.depth (.str t)) (PyData.depthAll (r.map PyData.str)) = 0
      rw [b]
      rfl
theorem dp_texts {K : PySem.W.Frag} {H : Hp} : ∀ ts : List Str, DpAll K H (ts.map V.str) (ts.map PyData.str)
  | [] => .nil
  | t :: r => .cons (.str t) (dp_texts r)
section
variable {X : Cx}
theorem any_texts (ts : List Str) (d : PyData) : ((ts.map PyData.str).any fun y => PyData.eqv y d) = hasT ts d := by
  rw [List.any_map]
  rfl
theorem op_inT (hu : X.A.units + 64 < cLine) : OpR X (compareOp .In) (rInT X.K) := by
  intro pins s σ H x y v u Q I rx ry h
  obtain ⟨a, d, ts, rfl, ht, hd, sd, st, q⟩ := h
  obtain ⟨lay, dep⟩ := lay_texts ts st
  obtain ⟨as, r1⟩ := Dp.reads I d x v hd rx
  obtain ⟨bs, r2⟩ := Dp.reads I (.tuple (ts.map PyData.str)) (.ref a) u (.tup ht (dp_texts ts)) ry
  cases r2 with
  | tuple h1 h2 h3 h4 =>
    refine SeqAt.in_tupleAt _ ⟨_, h1, h2, _, h3⟩ (SeqAt.items_eqAt h4 r1 lay (SeqAt.canLay_of_shaped sd) (by rw [dep, Nat.zero_min]; omega)) ?_
    rw [SeqAt.any_by_data h4 lay, any_texts]
    exact ⟨.bl _, H, I, rfl, q⟩
theorem op_notInT (hu : X.A.units + 64 < cLine) : OpR X (compareOp .NotIn) (rOutT X.K) := by
  intro pins s σ H x y v u Q I rx ry h
  obtain ⟨a, d, ts, rfl, ht, hd, sd, st, q⟩ := h
  obtain ⟨lay, dep⟩ := lay_texts ts st
  obtain ⟨as, r1⟩ := Dp.reads I d x v hd rx
  obtain ⟨bs, r2⟩ := Dp.reads I (.tuple (ts.map PyData.str)) (.ref a) u (.tup ht (dp_texts ts)) ry
  cases r2 with
  | tuple h1 h2 h3 h4 =>
    refine SeqAt.notIn_tupleAt _ ⟨_, h1, h2, _, h3⟩ (SeqAt.items_eqAt h4 r1 lay (SeqAt.canLay_of_shaped sd) (by rw [dep, Nat.zero_min]; omega)) ?_
    rw [SeqAt.any_by_data h4 lay, any_texts]
    exact ⟨.bl _, H, I, rfl, q⟩
end
theorem hasT_str (ts : List Str) (m : Str) : hasT ts (.str m) = decide (m ∈ ts) := by
  unfold hasT
  induction ts with
  | nil => simp
  | cons t r ih =>
    rw [List.any_cons, ih]
    show ((t == m) || decide (m ∈ r)) = decide (m ∈ t :: r)
    by_cases e : t = m
    · subst e
      simp
    · have e2 : ¬ m = t := fun z => e z.symm
      simp [e, e2]
theorem hasT_true {ts : List Str} {d : PyData} (h : hasT ts d = true) : ∃ m, d = .str m ∧ m ∈ ts := by
  obtain ⟨t, m, e⟩ := List.any_eq_true.mp h
  cases d with
  | str x =>
    have e : (t == x) = true := e
    exact ⟨x, rfl, by rw [← beq_iff_eq.mp e]; exact m⟩
  | none => cases e
  | bool b => cases e
  | int n => cases e
  | list l => cases e
  | tuple l => cases e
  | dict l => cases e
end Kn


namespace Kn
open PySem PySem.Spec PyProof.Rows L2
structure Def (K : PySem.W.Frag) (mg : Str → Option Value) (x : Str) (i : Nat) (ps : List Str) (f : Addr) (fd : FuncData) : Prop where
  F : Fun K x x (topS i) f fd
  b : Binds K fd ps []
  m : mg x = some (.ref f)
abbrev nThing : List Str := ["thing"]
theorem scInteger : FnScope nThing ["thing"] (defScope (topS 5)) := ⟨rfl, rfl, rfl, by decide +kernel, rfl, by decide +kernel, by decide +kernel⟩
theorem scNumber : FnScope nThing ["thing"] (defScope (topS 6)) := ⟨rfl, rfl, rfl, by decide +kernel, rfl, by decide +kernel, by decide +kernel⟩
def spB (K : PySem.W.Frag) (f : PyData → Bool) : Sp := fun vs H Q _ => ∃ (v : V) (d : PyData), vs = [v] ∧ Dp K H v d ∧ Q (.bl (f d)) H
structure Nice (d : PyData) : Prop where
  g : goodD d = true
  dp : d.depth ≤ 40
  n : nodesD d ≤ 1000
theorem Nice.tm {ds : List PyData} (h : Nice (.tuple ds)) : Tm 1000 39 ds := ⟨h.g, by have := h.n; show nodesDs ds ≤ 1000; have e : nodesD (.tuple ds) = 1 + nodesDs ds := rfl; omega, by have := h.dp; have e : (PyData.tuple ds).depth = PyData.depthAll ds + 1 := rfl; omega⟩
theorem Nice.get {ds : List PyData} (h : Nice (.tuple ds)) {i : Nat} {d : PyData} (e : ds[i]? = some d) : Nice d := by
  obtain ⟨a, b, c⟩ := h.tm.get e
  exact ⟨a, by omega, b⟩
theorem Nice.len {ds : List PyData} (h : Nice (.tuple ds)) : ds.length ≤ 1000 := Nat.le_trans (nodes_len ds) h.tm.n
theorem Nice.slen {x : Str} (h : Nice (.str x)) : x.length ≤ 1000 := by
  have := h.n
  have e : nodesD (.str x) = 1 + x.length := rfl
  omega
def spG (K : PySem.W.Frag) (f : PyData → Bool) : Sp := fun vs H Q _ => ∃ (v : V) (d : PyData), vs = [v] ∧ Dp K H v d ∧ Nice d ∧ ∀ H', Same H H' → Q (.bl (f d)) H'
def pairB : PyData → Bool
  | .tuple ds => decide (ds.length = 2)
  | _ => false
theorem tupD {K : PySem.W.Frag} {H : Hp} {v : V} {ds : List PyData} (h : Dp K H v (.tuple ds)) : ∃ p xs, v = .ref p ∧ SqT K H p xs ∧ DpAll K H xs ds ∧ xs.length = ds.length := by
  cases h with
  | tup a b => exact ⟨_, _, rfl, a, b, dsLen b⟩
theorem getD_of {α : Type} {ds : List α} {i : Nat} {d e : α} (h : ds[i]? = some d) : ds.getD i e = d := by
  rw [List.getD_eq_getElem?_getD, h]
  rfl
theorem name_str {d : PyData} (h : nameB d = true) : ∃ x, d = .str x := by
  cases d <;> first | exact ⟨_, rfl⟩ | cases h
def natB : PyData → Bool
  | .int n => decide (0 ≤ n)
  | _ => false
def storeB : PyData → Bool
  | .tuple [n, i] => nameB n && natB i
  | _ => false
theorem nice2 {a b : PyData} (h : Nice (.tuple [a, b])) : Nice a ∧ Nice b := ⟨h.get (i := 0) rfl, h.get (i := 1) rfl⟩
theorem two_of {α : Type} {l : List α} (h : l.length = 2) : ∃ a b, l = [a, b] := by
  match l, h with
  | [a, b], _ => exact ⟨a, b, rfl⟩
theorem pair_two {d : PyData} (h : pairB d = true) : ∃ a b, d = .tuple [a, b] := by
  cases d with
  | tuple ds =>
    obtain ⟨a, b, rfl⟩ := two_of (of_decide_eq_true h)
    exact ⟨a, b, rfl⟩
  | _ => cases h
theorem store_not {d : PyData} (h : pairB d = false) : storeB d = false := by
  cases d with
  | tuple ds =>
    match ds, h with
    | [], _ => rfl
    | [_], _ => rfl
    | [_, _], h => cases h
    | _ :: _ :: _ :: _, _ => rfl
  | _ => rfl
section
variable {P : Program} {w : World} {K : PySem.W.Frag} {mg : Str → Option Value} {base : Heap}
theorem ok_integer {f : Addr} {fd : FuncData} (F : Fun K "is_integer" "is_integer" (topS 5) f fd) (mi : mg "isinstance" = none) (mn : mg "int" = none) (mb : mg "bool" = none) : FnOk P w K mg base CX0 1 f fd ["thing"] (spB K intB) := by
  refine F.ok scInteger (fun vs H Q E h => ?_) (fun cdv A outer s H vs Q E hr h => ?_)
  · obtain ⟨v, d, rfl, _⟩ := h
    rfl
  · obtain ⟨v, d, rfl, hd, q⟩ := h
    refine ⟨_, pss_one (ps_ret (pe_and (pe_callB call_isi (by rfl) mi boot_isinstance (pa_cons (pv 0) (pa_cons (pe_bltn (v := .ty "int") (by rfl) mn (by decide +kernel) rfl) pa_nil))) (pe_one (pe_not (pe_callB call_isi (by rfl) mi boot_isinstance (pa_cons (pv 0) (pa_cons (pe_bltn (v := .ty "bool") (by rfl) mb (by decide +kernel) rfl) pa_nil))))))), ?_⟩
    refine ⟨v, rfl, v, .ty "int", _, _, _, rfl, .ty "int", ty_of hd, kit_int, ?_⟩
    refine ⟨_, rfl, ?_⟩
    have no : (intB d || boolB d) = true → Q (.bl (!boolB d)) H := fun z => by
      cases d <;> first | exact q | cases z
    cases z : intB d || boolB d
    · refine iteF ?_
      cases d <;> first | exact q | cases z
    · exact iteT ⟨v, rfl, v, .ty "bool", _, _, _, rfl, .ty "bool", ty_of hd, kit_bool, _, rfl, no z⟩
theorem ok_number {f fI : Addr} {fd fdI : FuncData} (F : Fun K "is_number" "is_number" (topS 6) f fd) (I : Def K mg "is_integer" 5 ["thing"] fI fdI) (OI : FnOk P w K mg base CX0 1 fI fdI ["thing"] (spB K intB)) : FnOk P w K mg base CX0 2 f fd ["thing"] (spB K natB) := by
  refine F.ok scNumber (fun vs H Q E h => ?_) (fun cdv A outer s H vs Q E hr h => ?_)
  · obtain ⟨v, d, rfl, _⟩ := h
    rfl
  · obtain ⟨v, d, rfl, hd, q⟩ := h
    refine ⟨_, pss_one (ps_ret (pe_and (pe_call OI hr (by rfl) I.m I.F.kp I.b .nil pass0 (pa_cons (pv 0) pa_nil)) (pe_one (pe_cmpR op_ge (pv 0) pe_int (nomark _))))), ?_⟩
    refine ⟨v, rfl, v, d, rfl, hd, _, rfl, ?_⟩
    cases hd with
    | int n => exact iteT ⟨_, rfl, n, 0, rfl, rfl, q⟩
    | non => exact iteF q
    | bl b => exact iteF q
    | str x => exact iteF q
    | lst a b => exact iteF q
    | tup a b => exact iteF q
end
end Kn


namespace Kn
open PySem PySem.Spec PyProof.Rows L2
abbrev nNo : List Str := ["web", "row"]
theorem scNo : FnScope nNo ["web"] (defScope (topS 8)) := ⟨rfl, rfl, rfl, by decide +kernel, rfl, by decide +kernel, by decide +kernel⟩
abbrev nFo : List Str := ["web", "kind", "row"]
theorem scFo : FnScope nFo ["web", "kind"] (defScope (topS 9)) := ⟨rfl, rfl, rfl, by decide +kernel, rfl, by decide +kernel, by decide +kernel⟩
abbrev nFe : List Str := ["web", "kind"]
theorem scFe : FnScope nFe ["web", "kind"] (defScope (topS 10)) := ⟨rfl, rfl, rfl, by decide +kernel, rfl, by decide +kernel, by decide +kernel⟩
abbrev nTa : List Str := ["web", "kind"]
theorem scTa : FnScope nTa ["web", "kind"] (defScope (topS 11)) := ⟨rfl, rfl, rfl, by decide +kernel, rfl, by decide +kernel, by decide +kernel⟩
abbrev nCs : List Str := ["web", "kind", "mark", "_", "fee", "has"]
theorem scCs : FnScope nCs ["web", "kind", "mark"] (defScope (topS 12)) := ⟨rfl, rfl, rfl, by decide +kernel, rfl, by decide +kernel, by decide +kernel⟩
abbrev nCm : List Str := ["marks"]
theorem scCm : FnScope nCm ["marks"] (defScope (topS 14)) := ⟨rfl, rfl, rfl, by decide +kernel, rfl, by decide +kernel, by decide +kernel⟩
abbrev nPo : List Str := ["web", "marks", "thing"]
abbrev nLv : List Str := ["web", "pairs", "name", "mark", "kind"]
theorem scLv : FnScope nLv ["web", "pairs"] (defScope (topS 16)) := ⟨rfl, rfl, rfl, by decide +kernel, rfl, by decide +kernel, by decide +kernel⟩
/-! ### a web of kinds whose names are apart -/
def rowOf (g : Pg) (n : Str) : Option Ent := g.es.find? fun e => decide (e.name = n)
structure GW (g : Pg) : Prop where
  ok : g.ok
  nd : (g.es.map (·.name)).Nodup
  fee : ∀ e ∈ g.es, 1 ≤ e.fee ∧ e.fee ≤ 9
  tab : ∀ e ∈ g.es, ∀ s ∈ e.row, s ∈ g.es.map (·.name)
  asks : g.asks ∈ g.es.map (·.name)
  nm : ∀ e ∈ g.es, nameB (.str e.name) = true
  few : g.es.length ≤ 4
  rows : ∀ e ∈ g.es, e.row.length ≤ 5
theorem row_is {g : Pg} {n : Str} {e : Ent} (h : rowOf g n = some e) : e ∈ g.es ∧ e.name = n := by
  unfold rowOf at h
  have z := List.find?_some h
  exact ⟨List.mem_of_find?_eq_some h, by simpa using z⟩
theorem row_mem {g : Pg} {n : Str} (h : n ∈ g.es.map (·.name)) : ∃ e, rowOf g n = some e := by
  obtain ⟨e, he, rfl⟩ := List.mem_map.mp h
  have : (rowOf g e.name).isSome = true := by
    unfold rowOf
    rw [List.find?_isSome]
    exact ⟨e, he, decide_eq_true rfl⟩
  exact Option.isSome_iff_exists.mp this
theorem row_none {g : Pg} {n : Str} (h : n ∉ g.es.map (·.name)) : rowOf g n = none := by
  cases z : rowOf g n with
  | none => rfl
  | some e =>
    obtain ⟨a, b⟩ := row_is z
    exact absurd (b ▸ List.mem_map.mpr ⟨e, a, rfl⟩) h
theorem row_tab {g : Pg} (G : GW g) {n s : Str} {e : Ent} (h : rowOf g n = some e) (hs : s ∈ e.row) : ∃ e', rowOf g s = some e' := row_mem (G.tab e (row_is h).1 s hs)
def canB (g : Pg) (n : Str) (m : Int) : Bool := match rowOf g n with
  | some e => !e.has && decide (e.fee ≤ m)
  | none => false
/-- what a pair leaves -/
def lvOf (g : Pg) (s : Str × Int) : List (Str × Int) := match rowOf g s.1 with
  | some e => e.row.map fun k => (k, s.2 - e.fee)
  | none => []
def lv (g : Pg) (ps : List (Str × Int)) : List (Str × Int) := ps.flatMap (lvOf g)
def PrAt (H : Hp) (v : V) (s : Str × Int) : Prop := ∃ p, v = .ref p ∧ H p = some (.tup [.str s.1, .int s.2])
inductive PrsAt (H : Hp) : List V → List (Str × Int) → Prop
  | nil : PrsAt H [] []
  | cons {v : V} {vs : List V} {s : Str × Int} {ss : List (Str × Int)} : PrAt H v s → PrsAt H vs ss → PrsAt H (v :: vs) (s :: ss)
theorem PrAt.ts {H H' : Hp} {v : V} {s : Str × Int} (t : TS H H') : PrAt H v s → PrAt H' v s := fun ⟨p, e, h⟩ => ⟨p, e, t.1 _ _ h⟩
theorem PrsAt.ts {H H' : Hp} (t : TS H H') : ∀ {vs : List V} {ss : List (Str × Int)}, PrsAt H vs ss → PrsAt H' vs ss
  | _, _, .nil => .nil
  | _, _, .cons a b => .cons (a.ts t) (PrsAt.ts t b)
theorem PrsAt.len {H : Hp} : ∀ {vs : List V} {ss : List (Str × Int)}, PrsAt H vs ss → vs.length = ss.length
  | _, _, .nil => rfl
  | _, _, .cons _ b => congrArg Nat.succ (PrsAt.len b)
theorem PrsAt.app {H : Hp} : ∀ {vs ws : List V} {ss tt : List (Str × Int)}, PrsAt H vs ss → PrsAt H ws tt → PrsAt H (vs ++ ws) (ss ++ tt)
  | _, _, _, _, .nil, h => h
  | _, _, _, _, .cons a b, h => .cons a (PrsAt.app b h)
theorem PrsAt.get {H : Hp} : ∀ {vs : List V} {ss : List (Str × Int)} {i : Nat} {v : V}, PrsAt H vs ss → vs[i]? = some v → ∃ s, ss[i]? = some s ∧ PrAt H v s
  | _, _, i, v, .nil, h => by cases h
  | _, _, 0, v, .cons a b, h => by
    have h : some _ = some v := h
    cases h
    exact ⟨_, rfl, a⟩
  | _, _, i + 1, v, .cons a b, h => PrsAt.get (i := i) b h
def dPr (s : Str × Int) : PyData := .tuple [.str s.1, .int s.2]
theorem PrAt.dp {K : PySem.W.Frag} {H : Hp} {v : V} {s : Str × Int} : PrAt H v s → Dp K H v (dPr s) := fun ⟨p, e, h⟩ => e ▸ .tup (.inl (.inl h)) (.cons (.str _) (.cons (.int _) .nil))
theorem PrsAt.dp {K : PySem.W.Frag} {H : Hp} : ∀ {vs : List V} {ss : List (Str × Int)}, PrsAt H vs ss → DpAll K H vs (ss.map dPr)
  | _, _, .nil => .nil
  | _, _, .cons a b => .cons a.dp (PrsAt.dp b)
theorem pr_seq {K : PySem.W.Frag} {H : Hp} {v : V} {s : Str × Int} (h : Dp K H v (dPr s)) : ∃ p, v = .ref p ∧ SqT K H p [.str s.1, .int s.2] := by
  obtain ⟨p, xs, rfl, hT, hds, lx⟩ := tupD h
  cases hds with
  | cons da hds =>
    cases hds with
    | cons db hds =>
      cases da
      cases db
      cases hds
      exact ⟨p, rfl, hT⟩
theorem lv_snoc {g : Pg} {ps : List (Str × Int)} {i : Nat} {s : Str × Int} (h : ps[i]? = some s) : lv g (ps.take (i + 1)) = lv g (ps.take i) ++ lvOf g s := by
  unfold lv
  rw [List.take_add_one, h, List.flatMap_append]
  show _ ++ (lvOf g s ++ []) = _
  rw [List.append_nil]
/-- whether any data is a pair of the web -/
def vpB (g : Pg) (p : Int) : PyData → Bool
  | .tuple [.str n, .int m] => (rowOf g n).isSome && decide (0 ≤ m) && decide (m ≤ p) && canB g n m
  | _ => false
def spNo (K : PySem.W.Frag) : Sp := fun vs H Q _ => ∃ (v : V) (g : Pg), vs = [v] ∧ PgAt K H v g ∧ g.es.length ≤ 1000 ∧ ∀ (p : Addr) (H' : Hp), Same H H' → H' p = some (.tup ((g.es.map (·.name)).map V.str)) → Q (.ref p) H'
def spFo (K : PySem.W.Frag) : Sp := fun vs H Q _ => ∃ (v : V) (g : Pg) (n : Str) (e : Ent), vs = [v, .str n] ∧ PgAt K H v g ∧ rowOf g n = some e ∧ ∀ r, EntAt K H r e → Q r H
def spFe (K : PySem.W.Frag) : Sp := fun vs H Q _ => ∃ (v : V) (g : Pg) (n : Str) (e : Ent), vs = [v, .str n] ∧ PgAt K H v g ∧ rowOf g n = some e ∧ Q (.int e.fee) H
def spTa (K : PySem.W.Frag) : Sp := fun vs H Q _ => ∃ (v : V) (g : Pg) (n : Str) (e : Ent), vs = [v, .str n] ∧ PgAt K H v g ∧ rowOf g n = some e ∧ ∀ q, SqT K H q (e.row.map V.str) → Q (.ref q) H
def spCs (K : PySem.W.Frag) : Sp := fun vs H Q _ => ∃ (v : V) (g : Pg) (n : Str) (m : Int), vs = [v, .str n, .int m] ∧ PgAt K H v g ∧ (rowOf g n).isSome = true ∧ Q (.bl (canB g n m)) H
def spCm : Sp := fun vs H Q _ => ∃ m : Int, vs = [.int m] ∧ 0 ≤ m ∧ Q .non H
def spPo (K : PySem.W.Frag) : Sp := fun vs H Q _ => ∃ (w v : V) (g : Pg) (p : Int) (d : PyData), vs = [w, .int p, v] ∧ PgAt K H w g ∧ g.es.length ≤ 1000 ∧ (∀ e ∈ g.es, nameB (.str e.name) = true) ∧ Dp K H v d ∧ Nice d ∧ ∀ H', Same H H' → Q (.bl (vpB g p d)) H'
def spLv (K : PySem.W.Frag) : Sp := fun vs H Q _ => ∃ (w : V) (q : Addr) (g : Pg) (xs : List V) (ps : List (Str × Int)), vs = [w, .ref q] ∧ PgAt K H w g ∧ GW g ∧ SqT K H q xs ∧ DpAll K H xs (ps.map dPr) ∧ ps.length ≤ 1000 ∧ (∀ s ∈ ps, (rowOf g s.1).isSome = true) ∧
  ∀ (l : Addr) (ys : List V) (H' : Hp), Same H H' → H' l = some (.lst ys) → PrsAt H' ys (lv g ps) → ys.length ≤ 8 * ps.length → Q (.ref l) H'
section
variable {P : Program} {w : World} {K : PySem.W.Frag} {mg : Str → Option Value} {base : Heap}
theorem ok_no {f : Addr} {fd : FuncData} (F : Fun K "names_of" "names_of" (topS 8) f fd) (mt : mg "tuple" = none) : FnOk P w K mg base CX0 1 f fd ["web"] (spNo K) := by
  refine F.ok scNo (fun vs H Q E h => ?_) (fun cdv A outer s H vs Q E hr h => ?_)
  · obtain ⟨v, g, rfl, _⟩ := h
    rfl
  · obtain ⟨v, g, rfl, ⟨p, q0, ws, rfl, hp, hq, hE⟩, few, q⟩ := h
    have lw := hE.len
    refine ⟨_, (pss_one (ps_ret (pe_callTy call_tuple_of (by rfl) mt (by decide +kernel) (pa_cons (pe_lc (own := [("row", 1)]) (g := gName 1) (by rfl) scNo.nd (pi_tup (pe_ix ix_tup (pv 0) pe_int (fun _ _ => rfl))) (blkOk_by (own := [("row", 1)]) (N := nNo) (sc := defScope (topS 8)) (by decide +kernel)) (fun _ _ _ _ _ => pg_name (i := 1) scNo.nd rfl (Or.inl rfl)) (fun _ _ _ _ _ => pts_nil) (fun _ _ _ _ _ => (pe_ix (r := rIxT K) ix_tup (pv 1) pe_int (fun _ _ => rfl)))) pa_nil)))), ?_⟩
    dsimp only [tRet, tCB, tCons]
    refine lc_mapT (a := q0) (xs := ws) ((g.es.map (·.name)).map V.str) (by simp; omega) (by omega) hq (fun R r => ⟨.ref p, rfl, p, _, 0, .ref q0, rfl, rfl, hp, atI_nat (j := 0) rfl, r⟩) (fun v => rfl) ?_ ?_
    · intro i x y G R hx hy sm k
      obtain ⟨e, he, ⟨pe, qe, rfl, he1, _⟩⟩ := hE.get hx
      obtain ⟨n, hn, rfl⟩ := map_get hy
      obtain ⟨e', he', rfl⟩ := map_get hn
      obtain rfl : e = e' := Option.some.inj (he.symm.trans he')
      exact ⟨.ref pe, rfl, pe, _, 0, .str e.name, rfl, rfl, tupS sm he1, atI_nat (j := 0) rfl, k G (Same.refl G)⟩
    · intro D G nD sm hD
      refine ⟨D, _, rfl, .inl ⟨.inl (.inl hD), fun l nl => q l _ (sm.trans (same_new nl)) upd_same⟩⟩
theorem ok_fo {f : Addr} {fd : FuncData} (F : Fun K "form_of" "form_of" (topS 9) f fd) : FnOk P w K mg base CX0 1 f fd ["web", "kind"] (spFo K) := by
  refine F.ok scFo (fun vs H Q E h => ?_) (fun cdv A outer s H vs Q E hr h => ?_)
  · obtain ⟨v, g, n, e, rfl, _⟩ := h
    rfl
  · obtain ⟨v, g, n, e, rfl, ⟨p, q0, ws, rfl, hp, hq, hE⟩, hr', q⟩ := h
    refine ⟨_, (pss_cons (ps_for PassesOwn.never rfl (pi_tup (pe_ix ix_tup (pv 0) pe_int (fun _ _ => rfl))) (pg_name (i := 2) scFo.nd rfl (.inl rfl)) (pss_one (ps_if (pt_cmpR op_eq (pe_ix ix_tup (pv 2) pe_int (fun _ _ => rfl)) (pv 1) (nomark _)) (pss_one (ps_ret (pv 2))) pss_nil)))
      (pss_one ps_never)), ?_⟩
    have lw := hE.len
    refine ⟨.ref p, rfl, p, _, 0, .ref q0, rfl, rfl, hp, atI_nat (j := 0) rfl, q0, rfl, ⟨_, hq⟩, ?_⟩
    refine for_tup (K := K) (a := q0) (xs := ws) (fun i σ G => G = H ∧ (∃ y, σ = [some (.ref p), some (.str n), y]) ∧ rowOf ⟨g.es.drop i, g.asks⟩ n = some e) ⟨rfl, ⟨none, rfl⟩, hr'⟩ (fun i σ G _ h => h.1 ▸ hq) ?_ ?_
    · rintro i x σ G hx ⟨rfl, ⟨y, rfl⟩, rd⟩
      obtain ⟨e', he', hv⟩ := hE.get hx
      obtain ⟨pe, qe, rfl, he1, hqe⟩ := id hv
      have hi : i < g.es.length := (List.getElem?_eq_some_iff.mp he').1
      have dr : g.es.drop i = e' :: g.es.drop (i + 1) := by
        rw [List.drop_eq_getElem_cons hi]
        congr 1
        exact Option.some.inj ((List.getElem?_eq_getElem hi).symm.trans he')
      unfold rowOf at rd
      dsimp only at rd
      rw [dr, List.find?_cons] at rd
      refine ⟨.ref pe, rfl, pe, _, 0, .str e'.name, rfl, rfl, he1, atI_nat (j := 0) rfl, _, rfl, rfl, _, rfl, ?_⟩
      by_cases z : e'.name = n
      · rw [decide_eq_true z] at rd
        cases rd
        rw [decide_eq_true (congrArg V.str z)]
        exact iteT ⟨_, rfl, q _ hv⟩
      · rw [decide_eq_false z] at rd
        rw [decide_eq_false (fun y => z (V.str.inj y))]
        exact iteF ⟨rfl, ⟨_, rfl⟩, rd⟩
    · rintro σ G ⟨rfl, _, rd⟩
      rw [lw, List.drop_length] at rd
      cases rd
theorem ok_fe {f fF : Addr} {fd fdF : FuncData} (F : Fun K "fee_of" "fee_of" (topS 10) f fd) (Fo : Def K mg "form_of" 9 ["web", "kind"] fF fdF) (OF : FnOk P w K mg base CX0 1 fF fdF ["web", "kind"] (spFo K)) : FnOk P w K mg base CX0 2 f fd ["web", "kind"] (spFe K) := by
  refine F.ok scFe (fun vs H Q E h => ?_) (fun cdv A outer s H vs Q E hr h => ?_)
  · obtain ⟨v, g, n, e, rfl, _⟩ := h
    rfl
  · obtain ⟨v, g, n, e, rfl, pg, hr', q⟩ := h
    refine ⟨_, (pss_one (ps_ret (pe_ix ix_tup (pe_call OF hr (by rfl) Fo.m Fo.F.kp Fo.b .nil pass0 (pa_cons (pv 0) (pa_cons (pv 1) pa_nil))) pe_int (fun _ _ => rfl)))), ?_⟩
    refine ⟨_, rfl, _, rfl, v, g, n, e, rfl, pg, hr', fun r ⟨pe, qe, er, he1, hqe⟩ => ?_⟩
    subst er
    exact ⟨pe, _, 1, .int e.fee, rfl, rfl, he1, atI_nat (j := 1) rfl, q⟩
theorem ok_ta {f fF : Addr} {fd fdF : FuncData} (F : Fun K "table_of" "table_of" (topS 11) f fd) (Fo : Def K mg "form_of" 9 ["web", "kind"] fF fdF) (OF : FnOk P w K mg base CX0 1 fF fdF ["web", "kind"] (spFo K)) : FnOk P w K mg base CX0 2 f fd ["web", "kind"] (spTa K) := by
  refine F.ok scTa (fun vs H Q E h => ?_) (fun cdv A outer s H vs Q E hr h => ?_)
  · obtain ⟨v, g, n, e, rfl, _⟩ := h
    rfl
  · obtain ⟨v, g, n, e, rfl, pg, hr', q⟩ := h
    refine ⟨_, (pss_one (ps_ret (pe_ix ix_tup (pe_call OF hr (by rfl) Fo.m Fo.F.kp Fo.b .nil pass0 (pa_cons (pv 0) (pa_cons (pv 1) pa_nil))) pe_int (fun _ _ => rfl)))), ?_⟩
    refine ⟨_, rfl, _, rfl, v, g, n, e, rfl, pg, hr', fun r ⟨pe, qe, er, he1, hqe⟩ => ?_⟩
    subst er
    exact ⟨pe, _, 3, .ref qe, rfl, rfl, he1, atI_nat (j := 3) rfl, q qe hqe⟩
theorem ok_cs {f fF : Addr} {fd fdF : FuncData} (F : Fun K "can_send" "can_send" (topS 12) f fd) (Fo : Def K mg "form_of" 9 ["web", "kind"] fF fdF) (OF : FnOk P w K mg base CX0 1 fF fdF ["web", "kind"] (spFo K)) : FnOk P w K mg base CX0 2 f fd ["web", "kind", "mark"] (spCs K) := by
  refine F.ok scCs (fun vs H Q E h => ?_) (fun cdv A outer s H vs Q E hr h => ?_)
  · obtain ⟨v, g, n, m, rfl, _⟩ := h
    rfl
  · obtain ⟨v, g, n, m, rfl, pg, hr', q⟩ := h
    obtain ⟨e, he⟩ := Option.isSome_iff_exists.mp hr'
    refine ⟨_, (pss_cons (ps_asg (pe_call OF hr (by rfl) Fo.m Fo.F.kp Fo.b .nil pass0 (pa_cons (pv 0) (pa_cons (pv 1) pa_nil))) (pg_tup (by rfl) (pgs_cons (pg_name (i := 3) scCs.nd rfl (.inl rfl)) (pgs_cons (pg_name (i := 4) scCs.nd rfl (.inl rfl)) (pgs_cons (pg_name (i := 5) scCs.nd rfl (.inl rfl)) (pgs_cons (pg_name (i := 3) scCs.nd rfl (.inl rfl)) pgs_nil))))))
      (pss_one (ps_ret (pe_and (pe_not (pv 5)) (pe_one (pe_cmpR op_ge (pv 2) (pv 4) (nomark _))))))), ?_⟩
    have ec : canB g n m = (!e.has && decide (e.fee ≤ m)) := by
      unfold canB
      rw [he]
    rw [ec] at q
    refine ⟨_, rfl, _, rfl, v, g, n, e, rfl, pg, he, fun r ⟨pe, qe, er, he1, hqe⟩ => ?_⟩
    subst er
    refine ⟨pe, _, rfl, he1, rfl, _, _, rfl, _, _, rfl, _, _, rfl, _, _, rfl, rfl, ?_⟩
    dsimp only [gName]
    refine ⟨_, rfl, e.has, rfl, _, rfl, ?_⟩
    cases hh : e.has
    · rw [hh] at q
      exact iteT ⟨_, rfl, _, rfl, m, e.fee, rfl, rfl, q⟩
    · rw [hh] at q
      exact iteF q
theorem ok_cm {f fN : Addr} {fd fdN : FuncData} (F : Fun K "check_marks" "check_marks" (topS 14) f fd) (N : Def K mg "is_number" 6 ["thing"] fN fdN) (ON : FnOk P w K mg base CX0 2 fN fdN ["thing"] (spB K natB)) : FnOk P w K mg base CX0 3 f fd ["marks"] spCm := by
  refine F.ok scCm (fun vs H Q E h => ?_) (fun cdv A outer s H vs Q E hr h => ?_)
  · obtain ⟨m, rfl, _⟩ := h
    rfl
  · obtain ⟨m, rfl, m0, q⟩ := h
    refine ⟨_, (pss_one (ps_if (pt_not (pt_val (pe_call ON hr (by rfl) N.m N.F.kp N.b .nil pass0 (pa_cons (pv 0) pa_nil)))) (pss_one ps_never) pss_nil)), ?_⟩
    refine ⟨_, rfl, .int m, .int m, rfl, .int m, _, rfl, ?_⟩
    have e : natB (.int m) = true := decide_eq_true m0
    rw [e]
    exact iteF q
end
end Kn


/-! Kn: a dict by a comprehension whose keys are tuples; <= of alike data. -/
namespace Kn
open PySem PySem.Spec PyProof.Rows L2
section
variable {X : Cx}
/-- the store at a turn's end, for either kind of dict -/
theorem put_turn {ps : List (Addr × Obj)} {τ : L2.St} {G G' : Hp} {m : Shared} {B : Value → Shared → Prop} {d : Addr} {key val : V} {ku vu : Value} {R : Unit → Shared → Prop} (room : X.A.units + 1 < cLine)
    (J : Inv X ps τ G m) (g : DPut G d key val G') (rk : RelV key ku) (rl : RelV val vu) (fin : ∀ m', Inv X ps τ G' m' → R () m') :
    wpAny (model X.prog X.w) X.A (dictSet d ku vu) R B m := by
  obtain ⟨pairs, k, e, rfl, lt, rfl⟩ | ⟨pairs, k, b, e, rfl, eb, lt, rfl⟩ := g
  · exact d_dictSet J e lt rk rl fin
  · cases (show ku = Value.ref b from rk)
    obtain ⟨_, notSys, held, pr, dict⟩ := dt_of J.hok e
    have room' : (tupleKind (mixKind X.prog X.w)).room X.A := by
      first
        | exact tupleKind_room_in1 room
        | (show _ < _; omega)
    have few : held.length ≤ sizeLine := Paired.length pr ▸ Nat.le_of_lt lt
    refine wpAny_dictSet_heap (hsz := few) room' (key_of J.hok eb) dict fun hp dict' same => fin _ ?_
    obtain ⟨ob, slots, epo, at', ex, da, sl, _, nd⟩ := dict'
    refine d_write J (by rw [e]; trivial) same ⟨ob, at'⟩ ⟨Nat.le_trans (length_putK ..) (by omega), notSys, _, (pr.put k eb rl).keeps fun c ys ec => (upd_ne (ne_of ec e (fun z => nomatch z))).trans ec, ob, slots, epo, at', ex, da, sl, nd⟩
/-- one turn of such a comprehension, from the item on -/
def turnT (D : Addr) (g : TG) (tt : TT) (tk tv : TE) (vs : List Nat) (σ : L2.St) (x : V) (G : Hp) (Nx : Hp → Prop) : Prop :=
  g x (wipe σ vs) G fun τ G2 => wipe τ vs = wipe σ vs ∧ tt τ G2 fun b G3 => if b = true then tk τ G3 fun y G4 => tv τ G4 fun z G5 => ∃ G6, DPut G5 D y z G6 ∧ Nx G6 else Nx G3
def tDcT (wi : TI) (g : TG) (tt : TT) (tk tv : TE) (vs : List Nat) : TE := fun σ H Q => wi σ H fun J G => ∀ D, G D = none → ∃ W : Nat → Nat → Hp → Prop, (∃ m, W 0 m (upd G D (.dT []))) ∧
  ∀ i m F, W i m F → (J.stop i F ∧ Q (.ref D) F) ∨ (J.go i F ∧ ∃ Nx : Hp → Prop, (∀ F', Nx F' → ∃ k, k < m ∧ W (i + 1) k F') ∧ ∀ x F', J.yld i F x F' → turnT D g tt tk tv vs σ x F' Nx)
theorem dcT_core {pins : List (Addr × Obj)} {s : Shared} {σ : L2.St} {H : Hp} {Q : VK} {use : Option (Value → Sem Unit)} {Qf : Value → Shared → Prop} {pos' : Pos} {kx vx tg iter : Expr} {ifs : List Expr} {scope : Scope} {own : List (Str × Nat)} {pos : Pos} {wi : TI} {g : TG} {tt : TT} {tk tv : TE} (room : X.A.units + 1 < cLine) (hc : X.calm = true) (hN : X.N.Nodup) (I : Inv X pins σ H s) (hi : PI X tg iter wi)
    (ok : BlkOk X.N X.env.scope scope own)
    (hg : ∀ (m : Shared) (F : Hp) (C : Addr) (cl : List (Str × Addr)) (fp : List Addr), PG (X.blk m F scope (compEnvC scope cl C X.env) fp) tg g)
    (ht : ∀ (m : Shared) (F : Hp) (C : Addr) (cl : List (Str × Addr)) (fp : List Addr), PTs (X.blk m F scope (compEnvC scope cl C X.env) fp) ifs tt)
    (hk : ∀ (m : Shared) (F : Hp) (C : Addr) (cl : List (Str × Addr)) (fp : List Addr), PE (X.blk m F scope (compEnvC scope cl C X.env) fp) kx tk)
    (he : ∀ (m : Shared) (F : Hp) (C : Addr) (cl : List (Str × Addr)) (fp : List Addr), PE (X.blk m F scope (compEnvC scope cl C X.env) fp) vx tv)
    (hs : ∀ x, foldedSetIterable iter X.env x = pure x) (q : tDcT wi g tt tk tv (own.map (·.2)) σ H Q)
    (last : ∀ D C m z F, Inv X pins σ F m → Q (.ref D) F → m.heap.Ns C z → FpOk X pins F C → compPost (model X.prog X.w) X.A X.xe use Qf (.ref D) C (.ok .next) m) :
    wpAny (model X.prog X.w) X.A (comprehension (.DictComp kx vx [⟨tg, iter, ifs, 0⟩] scope pos) scope X.env pos' newDict false (eval iter X.env) use) Qf X.xe s := by
  have cells : ∀ y ∈ scope.names, y.2 = .free → ∃ c, X.env.cells.lookup y.1 = some c := fun y my ey => (ok.free y my ey).elim (fun k => I.ok.has _ (.inl k)) (fun k => I.ok.has _ (.inr k))
  refine wpAny_comprehension_free rfl hs (closure_ok cells) ok.kind (fun y my ey => by rw [ok.uniq y my, ey]) ?_
  refine thn (hi.run pins s σ H _ I q) fun _ _ p => thn p fun _ a0 ⟨it, fp, tn, J, F0, ei, I0, T, at0, fr, q0⟩ => ?_
  subst ei
  refine wpAny_newObj_type (newEnv_comp ?_)
  -- the dict is laid
  obtain ⟨D, eD⟩ : ∃ D, D = a0.heap.objs.size := ⟨_, rfl⟩
  rw [← eD]
  have nD : F0 D = none := I0.hok.fresh (by rw [eD]; exact Nat.le_refl _)
  obtain ⟨W, ⟨n0, start⟩, step⟩ := q0 D nD
  obtain ⟨a1, e1⟩ : ∃ a1 : Shared, a1 = { a0 with heap := a0.heap.push { cls := .type "dict", data := .dict #[] } } := ⟨_, rfl⟩
  have h1 : a1.heap = a0.heap.push { cls := .type "dict", data := .dict #[] } := by rw [e1]
  obtain ⟨F1, eF⟩ : ∃ F1, F1 = upd F0 D (.dT []) := ⟨_, rfl⟩
  rw [← eF] at start
  have I1 : Inv X pins σ F1 a1 := by
    subst e1 eF eD
    exact I0.laid (t' := a0.toks) (fun _ _ z => Heap.get?_push_of_some _ z) (Nat.le_refl _) (dt_empty a0.heap I0.big)
  have low : ∀ b, b ∈ fp → b < a0.heap.objs.size := fun b mb => (T.obj _ _ at0 b mb).elim fun _ z => Heap.lt_size z.1
  have held : ∀ b, b ∈ fp → FpOk X pins F1 b := fun b mb => ⟨by
    subst eF eD
    rw [upd_ne (Nat.ne_of_lt (low b mb))]
    exact (fr b mb).1, (fr b mb).2⟩
  have big : ∀ b, b ∈ fp → b < a1.heap.objs.size := fun b mb => by
    rw [h1, Heap.size_push]
    exact Nat.lt_succ_of_lt (low b mb)
  have at1 : tn 0 a1.heap := T.keep _ _ _ at0 fun _ _ _ z => by
    rw [h1]
    exact Heap.get?_push_of_some _ z
  have I2 := block_start I1 ok hN fun b mb => ⟨held b mb, big b mb⟩
  -- what the block's parts do
  have rg := hg a1 F1 a1.heap.objs.size (cellsFrom (a1.heap.objs.size + 1) scope.names (cloFrom X.env.cells scope.names [])) fp
  have rt := ht a1 F1 a1.heap.objs.size (cellsFrom (a1.heap.objs.size + 1) scope.names (cloFrom X.env.cells scope.names [])) fp
  have rk := hk a1 F1 a1.heap.objs.size (cellsFrom (a1.heap.objs.size + 1) scope.names (cloFrom X.env.cells scope.names [])) fp
  have re := he a1 F1 a1.heap.objs.size (cellsFrom (a1.heap.objs.size + 1) scope.names (cloFrom X.env.cells scope.names [])) fp
  rw [← e1]
  obtain ⟨B, eB⟩ : ∃ B, B = compEnvC scope (cellsFrom (a1.heap.objs.size + 1) scope.names (cloFrom X.env.cells scope.names [])) a1.heap.objs.size X.env := ⟨_, rfl⟩
  obtain ⟨a2, e2⟩ : ∃ a2 : Shared, a2 = { a1 with heap := pushCells (a1.heap.push { cls := .type "dict", data := .dict #[] }) scope.names } := ⟨_, rfl⟩
  suffices z : codeAny (model X.prog X.w) X.A (.compStart (.DictComp kx vx [⟨tg, iter, ifs, 0⟩] scope pos) 0 (.ref it) (.ref D) B) (compPost (model X.prog X.w) X.A X.xe use Qf (.ref D) a1.heap.objs.size) a2 by
    rw [eB, e2] at z
    exact z
  rw [← eB] at I2 rg rt rk re
  rw [← e2] at I2
  have loc : B.locals = a1.heap.objs.size := by rw [eB]; rfl
  have at2 : tn 0 a2.heap := T.keep _ _ _ at1 fun _ _ _ z => by
    rw [e2]
    exact pushCells_keeps _ _ _ _ (Heap.get?_push_of_some _ z)
  have none1 : ∀ b, b ∈ fp → F1 b = none := fun b mb => (held b mb).1
  have fpIn : ∀ {τ : L2.St} {F : Hp} {m : Shared}, Inv (X.blk a1 F1 scope B fp) [] τ F m → (∀ b ∈ fp, F b = none) → ∀ b ∈ fp, FpOk (X.blk a1 F1 scope B fp) [] F b := by
    intro τ F m J nn b mb
    have y := J.ok.exf b mb
    exact ⟨nn b mb, y.1, J.ok.exfs b mb, .inl mb, fun x c z => y.2 x c z, fun p hp => by
      have hp : p ∈ ([] : List (Addr × Obj)) ++ [] := hp
      cases hp⟩
  obtain ⟨vs, ev⟩ : ∃ vs, vs = own.map (·.2) := ⟨_, rfl⟩
  rw [← ev] at I2 step
  have loop : codeAny (model X.prog X.w) X.A (.compLoop (.DictComp kx vx [⟨tg, iter, ifs, 0⟩] scope pos) 0 (.ref it) (.ref D) B) (compPost (model X.prog X.w) X.A X.xe use Qf (.ref D) a1.heap.objs.size) a2 := by
    refine compLoop_anyD (fun k m => ∃ i F, Inv (X.blk a1 F1 scope B fp) [] (wipe σ vs) F m ∧ tn i m.heap ∧ (∀ b ∈ fp, F b = none) ∧ W i k F) (fun k m ⟨i, F, J0, atm, nn, w⟩ => ?_) n0 ⟨0, F1, I2, at2, none1, start⟩
    rcases step i k F w with ⟨stop, out⟩ | ⟨go, Nx, after, turn⟩
    · refine thnF (T.done (X.blk a1 F1 scope B fp) rfl rfl rfl hc i [] m _ F (fun _ _ => False) J0 (fpIn J0 nn) atm stop) fun _ m1 ⟨er, J1⟩ => ?_
      subst er
      -- the def's own context again
      have back : Inv X pins σ F m1 := I1.call' (ch := fp) J1.os J1.base J1.hok J1.bare fun b mb => by
        obtain ⟨_, u1, u2, u3, u4, u5⟩ := held b mb
        exact ⟨u3, u1, u4, u5⟩
      have gone : F a1.heap.objs.size = none := by
        rw [← loc]
        exact J1.free
      obtain ⟨mm, ns, _⟩ := J1.loc
      have ns : m1.heap.Ns B.locals mm := ns
      rw [loc] at ns
      exact last D a1.heap.objs.size m1 mm F back out ns (I1.fpOk (Nat.le_refl _) gone)
    · refine thnF (T.item (X.blk a1 F1 scope B fp) rfl rfl rfl hc i [] m _ F (fun _ _ => False) J0 (fpIn J0 nn) atm go) fun _ m1 ⟨u, er, p1⟩ => ?_
      subst er
      refine thnF p1 fun _ m2 ⟨x, F2, J2, ru, yl, at3, nn2⟩ => ?_
      have J2p := J2.pinned (fpIn J2 nn2) (T.obj _ _ at3)
      refine thnF (rg.run _ m2 _ F2 x u _ J2p ru (turn x F2 yl)) fun _ m3 ⟨τ, F3, J3, ew, q3⟩ => ?_
      have next : ∀ {m' : Shared} {F' : Hp}, Inv (X.blk a1 F1 scope B fp) ([] ++ pinsAt fp m2.heap) τ F' m' → Nx F' → ∃ k', k' < k ∧ ∃ i F, Inv (X.blk a1 F1 scope B fp) [] (wipe σ vs) F m' ∧ tn i m'.heap ∧ (∀ b ∈ fp, F b = none) ∧ W i k' F := by
        intro m' F' J' nx
        obtain ⟨k', lt, w'⟩ := after F' nx
        have pin : ∀ b, b ∈ fp → ∀ o, m2.heap.get? b = some o → m'.heap.get? b = some o ∧ F' b = none := by
          intro b mb o z
          have y := J'.pin (b, o) (List.mem_append_right _ (List.mem_append_right _ (mem_pinsAt mb z)))
          exact ⟨y.1, y.2.1⟩
        refine ⟨k', lt, i + 1, F', (J'.unpinned (pins := [])).weak (by rw [← ew, wipe_length]) (fun j v z => ?_), T.keep _ _ _ at3 fun b mb o z => (pin b mb o z).1, fun b mb => ?_, w'⟩
        · rw [← ew] at z
          exact (wipe_some z).1
        · obtain ⟨o, z, _⟩ := T.obj _ _ at3 b mb
          exact (pin b mb o z).2
      refine thnF (rt.run _ m3 τ F3 _ J3 q3) fun b m4 ⟨F4, J4, q4⟩ => ?_
      cases b
      · exact next J4 q4
      · refine thnF (rk.run _ m4 τ F4 _ J4 q4) fun ku m5 ⟨y, F5, J5, rky, q5⟩ => thnF (re.run _ m5 τ F5 _ J5 q5) fun vu m6 ⟨z, F6, J6, rvz, F7, put, nx⟩ => ?_
        exact put_turn (X := X.blk a1 F1 scope B fp) room J6 put rky rvz fun m7 J7 => next J7 nx
  exact codeAny_compStart_dict loop (T.self X.A 0 _ _ _ at2 loop)
theorem pe_dcT {kx vx tg iter : Expr} {ifs : List Expr} {scope : Scope} {own : List (Str × Nat)} {pos : Pos} {wi : TI} {g : TG} {tt : TT} {tk tv : TE} (room : X.A.units + 1 < cLine) (hc : X.calm = true) (hN : X.N.Nodup) (hi : PI X tg iter wi)
    (ok : BlkOk X.N X.env.scope scope own)
    (hg : ∀ (m : Shared) (F : Hp) (C : Addr) (cl : List (Str × Addr)) (fp : List Addr), PG (X.blk m F scope (compEnvC scope cl C X.env) fp) tg g)
    (ht : ∀ (m : Shared) (F : Hp) (C : Addr) (cl : List (Str × Addr)) (fp : List Addr), PTs (X.blk m F scope (compEnvC scope cl C X.env) fp) ifs tt)
    (hk : ∀ (m : Shared) (F : Hp) (C : Addr) (cl : List (Str × Addr)) (fp : List Addr), PE (X.blk m F scope (compEnvC scope cl C X.env) fp) kx tk)
    (he : ∀ (m : Shared) (F : Hp) (C : Addr) (cl : List (Str × Addr)) (fp : List Addr), PE (X.blk m F scope (compEnvC scope cl C X.env) fp) vx tv)
    (hs : ∀ x, foldedSetIterable iter X.env x = pure x := by intro _; rfl) : PE X (.DictComp kx vx [⟨tg, iter, ifs, 0⟩] scope pos) (tDcT wi g tt tk tv (own.map (·.2))) := by
  refine ⟨fun pins s σ H Q I q => ?_⟩
  rw [arm_eval_DictComp]
  refine dcT_core room hc hN I hi ok hg ht hk he hs q fun D C m z F back out ns fo => ⟨z, ns, fun h3 same => ?_⟩
  obtain ⟨u0, u1, _, u3, u4, u5⟩ := fo
  exact ⟨.ref D, F, back.turned (t' := m.toks) (fun b o hb e => (same.2 b hb).trans e) u0 u1 u3 u4 u5, rfl, out⟩
theorem ps_setDcT {i : Nat} {y : Str} {py spos : Pos} {kx vx tg iter : Expr} {ifs : List Expr} {scope : Scope} {own : List (Str × Nat)} {pos : Pos} {wi : TI} {g : TG} {tt : TT} {tk tv : TE} (room : X.A.units + 1 < cLine) (hc : X.calm = true) (hN : X.N.Nodup) (hy : X.N[i]? = some y) (loc : X.env.scope.names.lookup y = some .local)
    (hsw : swapsWith (.DictComp kx vx [⟨tg, iter, ifs, 0⟩] scope pos) (some (.Name y py)) spos.line X.env = pure true) (hi : PI X tg iter wi)
    (ok : BlkOk X.N X.env.scope scope own)
    (hg : ∀ (m : Shared) (F : Hp) (C : Addr) (cl : List (Str × Addr)) (fp : List Addr), PG (X.blk m F scope (compEnvC scope cl C X.env) fp) tg g)
    (ht : ∀ (m : Shared) (F : Hp) (C : Addr) (cl : List (Str × Addr)) (fp : List Addr), PTs (X.blk m F scope (compEnvC scope cl C X.env) fp) ifs tt)
    (hk : ∀ (m : Shared) (F : Hp) (C : Addr) (cl : List (Str × Addr)) (fp : List Addr), PE (X.blk m F scope (compEnvC scope cl C X.env) fp) kx tk)
    (he : ∀ (m : Shared) (F : Hp) (C : Addr) (cl : List (Str × Addr)) (fp : List Addr), PE (X.blk m F scope (compEnvC scope cl C X.env) fp) vx tv)
    (hs : ∀ x, foldedSetIterable iter X.env x = pure x := by intro _; rfl) : PS X (.Assign [.Name y py] (.DictComp kx vx [⟨tg, iter, ifs, 0⟩] scope pos) spos) (tAsg (tDcT wi g tt tk tv (own.map (·.2))) (gName i)) := by
  refine ⟨fun pins s σ H D I q => ?_⟩
  rw [exec_Assign_Name_used _ _ _ _ hsw]
  refine wpAny_bind (wpAny_standAt (wpAny_bind ?_))
  have q : tDcT wi g tt tk tv (own.map (·.2)) σ H (fun x F => gName i x σ F D.nx) := q
  show wpAny _ X.A (do let _ ← comprehension (.DictComp kx vx [⟨tg, iter, ifs, 0⟩] scope pos) scope X.env (firstIterPos [⟨tg, iter, ifs, 0⟩] pos) newDict false (eval iter X.env) (some (assign (.Name y py) X.env))) _ _ s
  refine wpAny_bind (thn (dcT_core (Qf := fun _ m => SP X pins D .next m) room hc hN I hi ok hg ht hk he hs q fun L C m z F back out ns fo => ?_) fun _ m out => wpAny_pure (wpAny_pure out))
  show wpAny _ _ (assign (.Name y py) X.env (.ref L)) _ _ _
  obtain ⟨u0, u1, _, u3, u4, u5⟩ := fo
  refine wpAny_assign_Name (store_ok2 (v := V.ref L) back hN hy (.inl loc) rfl (fun m2 J ⟨a, sb, ha⟩ => ?_) (.inr loc))
  have far : C ≠ a := ha.elim (fun z => z ▸ u1) fun z e => u4 y a z e.symm
  exact ⟨z, ns.sameBut sb far, fun h3 same => ⟨_, F, J.turned (t' := m2.toks) (fun b o hb e => (same.2 b hb).trans e) u0 u1 u3 u4 u5, out⟩⟩
theorem swD_true {kx vx : Expr} {gs : List Comprehension} {scope : Scope} {pos py : Pos} {y : Str} {l : Nat} {env : Env} (fn : env.scope.kind = .function) (loc : env.scope.names.lookup y = some .local) (row : (py.line == pos.line) = true)
    (out : (scope.names.any fun (n, k) => n == y && (k == .local || k == .cell)) = false) : swapsWith (.DictComp kx vx gs scope pos) (some (.Name y py)) l env = pure true := by
  have e1 : env.kindOf y = some .local := loc
  have e2 : env.blockKind = .function := by
    unfold Env.blockKind
    rw [fn]
    rfl
  unfold swapsWith
  simp only [e2, e1, out, Expr.pos, row]
  rfl
/-- over a list that stays -/
theorem dcT_list {K : PySem.W.Frag} {a : Addr} {xs : List V} {g : TG} {tt : TT} {tk tv : TE} {vs : List Nat} {σ : L2.St} {G : Hp} {D : Addr} {Qd : Hp → Prop} (Pv : Nat → Hp → Prop) (start : Pv 0 (upd G D (.dT []))) (stay : ∀ i F, i ≤ xs.length → Pv i F → SqL K F a xs)
    (turn : ∀ i x F, xs[i]? = some x → Pv i F → turnT D g tt tk tv vs σ x F (Pv (i + 1))) (fin : ∀ F, Pv xs.length F → Qd F) :
    ∃ W : Nat → Nat → Hp → Prop, (∃ m, W 0 m (upd G D (.dT []))) ∧
      ∀ i m F, W i m F → ((Itl K a).stop i F ∧ Qd F) ∨ ((Itl K a).go i F ∧ ∃ Nx : Hp → Prop, (∀ F', Nx F' → ∃ k, k < m ∧ W (i + 1) k F') ∧ ∀ x F', (Itl K a).yld i F x F' → turnT D g tt tk tv vs σ x F' Nx) := by
  refine ⟨fun i m F => m = xs.length - i ∧ i ≤ xs.length ∧ Pv i F, ⟨_, rfl, Nat.zero_le _, start⟩, fun i m F ⟨em, le, p⟩ => ?_⟩
  have at' := stay i F le p
  rcases Nat.lt_or_ge i xs.length with lt | ge
  · have here : xs[i]? = some xs[i] := List.getElem?_eq_getElem lt
    refine .inr ⟨⟨xs, xs[i], at', here⟩, Pv (i + 1), fun F' p' => ⟨xs.length - (i + 1), by omega, rfl, lt, p'⟩, fun x F' y => ?_⟩
    obtain ⟨rfl, y⟩ := y
    exact turn i x _ (y xs at') p
  · obtain rfl : i = xs.length := Nat.le_antisymm le ge
    exact .inl ⟨⟨xs, at', Nat.le_refl _⟩, fin F p⟩
/-! ### <= of alike data -/
def rLeD (K : PySem.W.Frag) : R2 := fun x y H Q => ∃ (d e : PyData), Dp K H x d ∧ Dp K H y e ∧ PySem.W.alike d e = true ∧ d ≠ .none ∧ d.depth ≤ 60 ∧ Q (.bl (!PySem.W.dataLt e d)) H
theorem op_leD (room : X.A.units + 64 < cLine) : OpR X (compareOp .LtE) (rLeD X.K) := by
  intro pins s σ H x y v u Q I rx ry ⟨d, e, hd, he, al, no, dep, q⟩
  obtain ⟨as, r1⟩ := Dp.reads I d x v hd rx
  obtain ⟨bs, r2⟩ := Dp.reads I e y u he ry
  exact PySem.W.rcLe_alike d e X.A s v u as bs r1 r2 al no (by omega) X.prog X.w X.xe (EP X pins σ Q) ⟨.bl _, H, I, rfl, q⟩
/-! ### data in tuples of data; a tuple of words and numbers in a dict -/
def rHasD (K : PySem.W.Frag) (neg : Bool) : R2 := fun x y H Q => ∃ d ds, Dp K H x d ∧ Dp K H y (.tuple ds) ∧ SeqAt.shaped d = true ∧ SeqAt.shaped (.tuple ds) = true ∧ d.depth ≤ 60 ∧ Q (.bl ((ds.any fun z => PyData.eqv z d) != neg)) H
theorem op_inTD (room : X.A.units + 64 < cLine) : OpR X (compareOp .In) (rHasD X.K false) := by
  rintro pins s σ H x y v u Q I rx ry ⟨d, ds, hd, he, sd, se, dep, q⟩
  obtain ⟨as, r1⟩ := Dp.reads I d x v hd rx
  obtain ⟨bs, r2⟩ := Dp.reads I (.tuple ds) y u he ry
  rw [Bool.bne_false] at q
  have lays : PyData.canLayAll0 ds = true := SeqAt.canLay_of_shaped se
  exact SeqAt.in_tuple_reads r2 r1 lays (SeqAt.canLay_of_shaped sd) (by have := Nat.min_le_right (PyData.depthAll ds) d.depth; omega) ⟨.bl _, H, I, rfl, q⟩
theorem op_notInTD (room : X.A.units + 64 < cLine) : OpR X (compareOp .NotIn) (rHasD X.K true) := by
  rintro pins s σ H x y v u Q I rx ry ⟨d, ds, hd, he, sd, se, dep, q⟩
  obtain ⟨as, r1⟩ := Dp.reads I d x v hd rx
  obtain ⟨bs, r2⟩ := Dp.reads I (.tuple ds) y u he ry
  rw [Bool.bne_true] at q
  have lays : PyData.canLayAll0 ds = true := SeqAt.canLay_of_shaped se
  exact SeqAt.notIn_tuple_reads r2 r1 lays (SeqAt.canLay_of_shaped sd) (by have := Nat.min_le_right (PyData.depthAll ds) d.depth; omega) ⟨.bl _, H, I, rfl, q⟩
def rHasL (K : PySem.W.Frag) (neg : Bool) : R2 := fun x y H Q => ∃ d ds, Dp K H x d ∧ Dp K H y (.list ds) ∧ SeqAt.shaped d = true ∧ PyData.canLayAll0 ds = true ∧ d.depth ≤ 60 ∧ Q (.bl ((ds.any fun z => PyData.eqv z d) != neg)) H
theorem op_inLD (room : X.A.units + 64 < cLine) : OpR X (compareOp .In) (rHasL X.K false) := by
  rintro pins s σ H x y v u Q I rx ry ⟨d, ds, hd, he, sd, se, dep, q⟩
  obtain ⟨as, r1⟩ := Dp.reads I d x v hd rx
  obtain ⟨bs, r2⟩ := Dp.reads I (.list ds) y u he ry
  rw [Bool.bne_false] at q
  exact SeqAt.in_list_reads r2 r1 se (SeqAt.canLay_of_shaped sd) (by have := Nat.min_le_right (PyData.depthAll ds) d.depth; omega) ⟨.bl _, H, I, rfl, q⟩
theorem op_notInLD (room : X.A.units + 64 < cLine) : OpR X (compareOp .NotIn) (rHasL X.K true) := by
  rintro pins s σ H x y v u Q I rx ry ⟨d, ds, hd, he, sd, se, dep, q⟩
  obtain ⟨as, r1⟩ := Dp.reads I d x v hd rx
  obtain ⟨bs, r2⟩ := Dp.reads I (.list ds) y u he ry
  rw [Bool.bne_true] at q
  exact SeqAt.notIn_list_reads r2 r1 se (SeqAt.canLay_of_shaped sd) (by have := Nat.min_le_right (PyData.depthAll ds) d.depth; omega) ⟨.bl _, H, I, rfl, q⟩
def rKeyD (K : PySem.W.Frag) (neg : Bool) : R2 := fun x y H Q => ∃ (b D : Addr) (ks : List Key) (kvs : List (List Key × V)), x = .ref b ∧ SqT K H b (ks.map kV) ∧ y = .ref D ∧ H D = some (.dT kvs) ∧ Q (.bl ((valV kvs ks).isSome != neg)) H
theorem key_seq {pins : List (Addr × Obj)} {s : Shared} {σ : L2.St} {H : Hp} {b : Addr} {ks : List Key} (I : Inv X pins σ H s) (h : SqT X.K H b (ks.map kV)) : (tupleKind (mixKind X.prog X.w)).is s.heap ks b := by
  obtain ⟨its, r, ⟨o, at', c, n, da⟩, _⟩ := I.tuple h
  exact ⟨o, its.toArray, n, at', c, da, by simpa using items_are r⟩
theorem op_notInK (room : X.A.units + 1 < cLine) : OpR X (compareOp .NotIn) (rKeyD X.K true) := by
  rintro pins s σ H x y v u Q I rx ry ⟨b, D, ks, kvs, rfl, hb, rfl, hD, q⟩
  obtain rfl : v = Value.ref b := rx
  obtain rfl : u = Value.ref D := ry
  obtain ⟨_, notSys, held, pr, dict⟩ := dt_of I.hok hD
  refine wpAny_notIn_heap (tupleKind_room_in1 room) (key_seq I hb) notSys dict ⟨.bl _, H, I.tok _, ?_, q⟩
  have e := (pr.val ks).isSome_eq
  rw [Option.isSome_map] at e
  rw [Bool.bne_true, e]
  rfl
end
end Kn


namespace Kn
open PySem PySem.Spec PyProof.Rows L2
section
variable {P : Program} {w : World} {K : PySem.W.Frag} {mg : Str → Option Value} {base : Heap}
theorem vp_not {g : Pg} {p : Int} {d : PyData} (nm : ∀ e ∈ g.es, nameB (.str e.name) = true) (h : storeB d = false) : vpB g p d = false := by
  cases z : vpB g p d with
  | false => rfl
  | true =>
    exfalso
    match d, z, h with
    | .tuple [.str n, .int m], z, h =>
      have z : ((rowOf g n).isSome && decide (0 ≤ m) && decide (m ≤ p) && canB g n m) = true := z
      rw [Bool.and_eq_true, Bool.and_eq_true, Bool.and_eq_true] at z
      obtain ⟨e, he⟩ := Option.isSome_iff_exists.mp z.1.1.1
      obtain ⟨a, b⟩ := row_is he
      have y := nm e a
      rw [b] at y
      have h : (nameB (.str n) && decide (0 ≤ m)) = false := h
      rw [y, z.1.1.2] at h
      cases h
theorem store_is {d : PyData} (h : storeB d = true) : ∃ n m, d = .tuple [.str n, .int m] ∧ 0 ≤ m := by
  match d, h with
  | .tuple [a, b], h =>
    have h : (nameB a && natB b) = true := h
    rw [Bool.and_eq_true] at h
    obtain ⟨x, rfl⟩ := name_str h.1
    match b, h.2 with
    | .int m, y => exact ⟨x, m, rfl, of_decide_eq_true y⟩
theorem mem_rows {g : Pg} {n : Str} : (n ∈ g.es.map (·.name)) ↔ (rowOf g n).isSome = true := ⟨fun h => let ⟨e, he⟩ := row_mem h; by rw [he]; rfl, fun h => by
  obtain ⟨e, he⟩ := Option.isSome_iff_exists.mp h
  obtain ⟨a, b⟩ := row_is he
  exact b ▸ List.mem_map.mpr ⟨e, a, rfl⟩⟩
end
end Kn


namespace Kn
open PySem PySem.Spec PyProof.Rows L2
section
variable {P : Program} {w : World} {K : PySem.W.Frag} {mg : Str → Option Value} {base : Heap}
theorem ok_lv {f fE fT : Addr} {fd fdE fdT : FuncData} (F : Fun K "leavings" "leavings" (topS 16) f fd) (Fe : Def K mg "fee_of" 10 ["web", "kind"] fE fdE) (OE : FnOk P w K mg base CX0 2 fE fdE ["web", "kind"] (spFe K))
    (Ta : Def K mg "table_of" 11 ["web", "kind"] fT fdT) (OT : FnOk P w K mg base CX0 2 fT fdT ["web", "kind"] (spTa K)) : FnOk P w K mg base CX0 3 f fd ["web", "pairs"] (spLv K) := by
  refine F.ok scLv (fun vs H Q E h => ?_) (fun cdv A outer s H vs Q E hr h => ?_)
  · obtain ⟨w0, q, g, xs, ps, rfl, _⟩ := h
    rfl
  · obtain ⟨w0, q0, g, xs, ps, rfl, pg, G, hT, hps, few, all, q⟩ := h
    refine ⟨_, pss_one (ps_ret (pe_lc2 (wi1 := iTup K (tCall (spTa K) [] E0 (tCons (tVar 0) (tCons (tVar 2) tNil)))) (own := [("name", 2), ("mark", 3), ("kind", 4)]) (vs1 := [4]) (g := gTup K 2 (gCons (gName 2) (gCons (gName 3) gNil))) (g1 := gName 4) (by rfl) scLv.nd (pi_tup (pv 1))
      (blkOk_by (own := [("name", 2), ("mark", 3), ("kind", 4)]) (N := nLv) (sc := defScope (topS 16)) (by decide +kernel)) (by decide)
      (fun _ _ _ _ _ => pg_tup (by rfl) (pgs_cons (pg_name (i := 2) scLv.nd rfl (Or.inl rfl)) (pgs_cons (pg_name (i := 3) scLv.nd rfl (Or.inl rfl)) pgs_nil))) (fun _ _ _ _ _ => pts_nil)
      ?hi1 (fun _ _ _ _ _ => pg_name (i := 4) scLv.nd rfl (Or.inl rfl)) (fun _ _ _ _ _ => pts_nil)
      (fun _ _ _ _ _ => pe_tup (pa_cons (pv 4) (pa_cons (pe_op op_sub (pv 3) (pe_call OE hr (by rfl) Fe.m Fe.F.kp Fe.b .nil pass0 (pa_cons (pv 0) (pa_cons (pv 2) pa_nil)))) pa_nil))))), ?_⟩
    case hi1 => exact fun _ _ _ _ _ => pi_tup (pe_call OT hr (by rfl) Ta.m Ta.F.kp Ta.b .nil pass0 (pa_cons (pv 0) (pa_cons (pv 2) pa_nil)))
    dsimp only [tRet, tTup, tCons, tC, tCB]
    have lx : xs.length = ps.length := by rw [dsLen hps, List.length_map]
    refine ⟨.ref q0, rfl, q0, rfl, ⟨xs, hT⟩, fun D nD => ?_⟩
    refine ⟨fun i m F => m = ps.length - i ∧ i ≤ ps.length ∧ Same H F ∧ ∃ acc, F D = some (.lst acc) ∧ acc.length ≤ 5 * i ∧ PrsAt F acc (lv g (ps.take i)), ⟨_, rfl, Nat.zero_le _, same_new nD, [], upd_same, Nat.zero_le _, .nil⟩, ?_⟩
    rintro i m F ⟨rfl, hi, sm, acc, eD, la, hacc⟩
    have qT := sameDp sm hT
    by_cases lt : i < ps.length
    · have hx : xs[i]? = some (xs[i]'(by omega)) := List.getElem?_eq_getElem (by omega)
      have hs : ps[i]? = some (ps[i]'lt) := List.getElem?_eq_getElem lt
      generalize ps[i]'lt = s0 at hs
      obtain ⟨d0, hd0, pr⟩ := dsAt hps i _ hx
      obtain rfl : dPr s0 = d0 := by
        rw [List.getElem?_map, hs] at hd0
        exact Option.some.inj hd0
      obtain ⟨px, ex, hpx⟩ := pr_seq pr
      obtain ⟨e, he⟩ := Option.isSome_iff_exists.mp (all s0 (List.mem_of_getElem? hs))
      have em := (row_is he).1
      have e5 := G.rows e em
      have el : lvOf g s0 = e.row.map fun k => (k, s0.2 - e.fee) := by
        unfold lvOf
        rw [he]
      refine .inr ⟨⟨xs, _, qT, hx⟩, fun F' => Same H F' ∧ ∃ acc, F' D = some (.lst acc) ∧ acc.length ≤ 5 * (i + 1) ∧ PrsAt F' acc (lv g (ps.take (i + 1))), fun F' z => ⟨ps.length - (i + 1), by omega, rfl, lt, z⟩, fun x F' y => ?_⟩
      obtain ⟨rfl, y⟩ := y
      have ey := y xs qT
      rw [hx] at ey
      cases ey
      refine ⟨px, _, ex, tupS sm hpx, rfl, _, _, rfl, _, _, rfl, rfl, rfl, ?_⟩
      dsimp only [tYes]
      refine iteT ?_
      refine ⟨w0, rfl, .str s0.1, rfl, w0, g, s0.1, e, rfl, pg.same sm, he, fun qe hqe => ⟨qe, rfl, ⟨_, hqe⟩, ?_⟩⟩
      refine ⟨fun j k F1 => k = e.row.length - j ∧ j ≤ e.row.length ∧ Same H F1 ∧ TS F' F1 ∧ ∃ acc, F1 D = some (.lst acc) ∧ acc.length ≤ 5 * i + j ∧ PrsAt F1 acc (lv g (ps.take i) ++ (e.row.take j).map fun k => (k, s0.2 - e.fee)), ?_, ?_⟩
      · exact ⟨_, rfl, Nat.zero_le _, sm, TS.refl _, acc, eD, la, by rw [List.take_zero, List.map_nil, List.append_nil]; exact hacc⟩
      · rintro j k F1 ⟨rfl, hj, s1, u1, acc1, eD1, la1, hacc1⟩
        have qE := tupT u1 hqe
        by_cases lt1 : j < e.row.length
        · have hk : e.row[j]? = some (e.row[j]'lt1) := List.getElem?_eq_getElem lt1
          generalize e.row[j]'lt1 = kn at hk
          have hkv : (e.row.map V.str)[j]? = some (.str kn) := by rw [List.getElem?_map, hk]; rfl
          refine .inr ⟨⟨_, _, qE, hkv⟩, fun F2 => Same H F2 ∧ TS F' F2 ∧ ∃ acc, F2 D = some (.lst acc) ∧ acc.length ≤ 5 * i + (j + 1) ∧ PrsAt F2 acc (lv g (ps.take i) ++ (e.row.take (j + 1)).map fun k => (k, s0.2 - e.fee)), fun F2 z => ⟨e.row.length - (j + 1), by omega, rfl, lt1, z⟩, fun x F2 y => ?_⟩
          obtain ⟨rfl, y⟩ := y
          have ey := y _ qE
          rw [hkv] at ey
          cases ey
          refine ⟨rfl, ?_⟩
          refine iteT ?_
          refine ⟨.str kn, rfl, .int s0.2, rfl, w0, rfl, .str s0.1, rfl, w0, g, s0.1, e, rfl, pg.same s1, he, s0.2, e.fee, rfl, rfl, ⟨show 2 ≤ sizeLine by decide, fun t nt => ?_⟩⟩
          have ne : D ≠ t := ne_of_none eD1 nt
          have t1 : TS F2 (upd F2 t (.tup [.str kn, .int (s0.2 - e.fee)])) := ts_same (same_new nt)
          have t2 : TS (upd F2 t (.tup [.str kn, .int (s0.2 - e.fee)])) (upd (upd F2 t (.tup [.str kn, .int (s0.2 - e.fee)])) D (.lst (acc1 ++ [.ref t]))) := ts_lst ((upd_ne ne).trans eD1)
          refine ⟨acc1, (upd_ne ne).trans eD1, Nat.lt_of_le_of_lt (show acc1.length ≤ 1000000 by omega) (by decide), putS (putS s1 (s1.free nt)) nD, u1.trans (t1.trans t2), acc1 ++ [.ref t], upd_same, by rw [List.length_append]; show acc1.length + 1 ≤ _; omega, ?_⟩
          rw [List.take_add_one, hk, List.map_append, ← List.append_assoc]
          exact PrsAt.app ((hacc1.ts t1).ts t2) (.cons ⟨t, rfl, t2.1 _ _ upd_same⟩ .nil)
        · obtain rfl : j = e.row.length := by omega
          refine .inl ⟨⟨_, qE, by rw [List.length_map]; exact Nat.le_refl _⟩, s1, acc1, eD1, by omega, ?_⟩
          rw [lv_snoc hs, el]
          rw [List.take_length] at hacc1
          exact hacc1
    · obtain rfl : i = ps.length := by omega
      refine .inl ⟨⟨xs, qT, by omega⟩, ?_⟩
      rw [List.take_length] at hacc
      exact q D acc F sm eD hacc (by omega)
end
end Kn


/-! Kn: a def that gets the error which is being handled. -/
namespace Kn
open PySem PySem.Spec PyProof.Rows L2
abbrev ESp := Addr → Value → Option Addr → Sp
section
variable (P : Program) (w : World) (K : PySem.W.Frag) (mg : Str → Option Value) (base : Heap)
structure Handed (k : Nat) (f : Addr) (fd : FuncData) (ps : List Str) (sp : ESp) : Prop where
  many : ∀ a c d vs H Q E, sp a c d vs H Q E → vs.length = ps.length
  goes : ∀ (A : Around) (fr : List Env) (s : Shared) (H : Hp) (g : Args) (us : List Value) (vs : List V) (Q : VK) (E : XK) (p : Addr × Obj) (c : Value) (d : Option Addr), L2H.RoomH k A → A.handled = some (.ref p.1) → Zc c d p.2 → (∃ v, p.2.data = .fields v) →
    L2H.PinOk fr H s p → Env0 P w K mg base A fr s H → BindsTo s fd g (ps.zip us) → Vals vs us → sp p.1 c d vs H Q E → codeAny (model P w) A (.call (.ref f) g) (CR CX0 fr P w H s Q E) s
end
section
variable {P : Program} {w : World} {K : PySem.W.Frag} {mg : Str → Option Value} {base : Heap} {k : Nat} {f : Addr} {fd : FuncData} {ps N : List Str} {sp : ESp} {x qual : Str} {st : Stmt}
theorem mark_same {A : Around} {env : Env} {a : Addr} (h : A.handled = some (.ref a)) : (A.deeper env).mark (some (.ref a)) = A.deeper env := by
  obtain ⟨h1, d, fr, g, u⟩ := A
  cases h
  rfl
theorem Handed.body (F : Fun K x qual st f fd) (S : FnScope N ps (defScope st)) (many : ∀ a c d vs H Q E, sp a c d vs H Q E → vs.length = ps.length)
    (hb : ∀ (cdv : Value) (A : Around) (fr : List Env) (s : Shared) (H : Hp) (vs : List V) (Q : VK) (E : XK) (p : Addr × Obj) (c : Value) (d : Option Addr), Zc c d p.2 → (∃ v, p.2.data = .fields v) → L2H.RoomH k (A.deeper (envOfC qual (defScope st) s.heap.objs.size f cdv)) → sp p.1 c d vs H Q E →
      ∃ t, PSs ((cxOf CX0 P w K mg base N qual (defScope st) f cdv A fr s H E).suite p.1 [(p.1, p.2)]) (defBody st) t ∧ t { nx := fun _ H' => Q .non H', rt := Q } (start N vs) H) :
    Handed P w K mg base (k + 1) f fd ps sp := by
  obtain ⟨oc, od, kV, doc, pm, an, cdv, ct, osl, rfl, look, cdOk⟩ := F.ex
  refine ⟨many, fun A fr s H g us vs Q E p c d room hot hz hf pin z bound rv told => ?_⟩
  have held : ∀ b o, base.get? b = some o → s.heap.get? b = some o := fun b o y => (z.bs b o y).1
  have KS : K.In s.heap := z.mod.kin.keeps held
  have parL : ∀ y ∈ ps.zip us, (defScope st).names.lookup y.1 = some .local ∨ ((defScope st).names.lookup y.1 = some .cell ∧ ((cellsFrom (s.heap.objs.size + 1) (defScope st).names []).lookup y.1).isSome = true) := by
    rintro ⟨n, v⟩ hy
    cases S.par n (List.of_mem_zip hy).1 with
    | inl q => exact .inl q
    | inr q => exact .inr ⟨q, PySem.W.cellsFrom_some _ _ _ (.inl q)⟩
  refine codeAny_call_function room.depth (KS _ _ look) rfl S.co S.gen rfl (PySem.W.codeRec_of KS cdOk) (bound _ _ _ _ ?_)
  refine wpAny_newFunctionEnv_cells S.kind parL ?_
  rintro env rfl s1 y
  refine ⟨(z.mod.nolimit.keeps held).keeps y.toInCall.keep, codeAny_func ?_⟩
  obtain ⟨t, ht, ends⟩ := hb cdv A fr s H vs Q E p c d hz hf (room.deeper _) told
  have I := L2H.inv_startH (CX := CX0) (P := P) (mg := mg) (E := E) S pin z (many _ _ _ _ _ _ _ told) rv y
  have ec : (cxOf CX0 P w K mg base N qual (defScope st) f cdv A fr s H E).suite p.1 [(p.1, p.2)] = (L2H.cxH CX0 P w K mg base N qual (defScope st) f cdv A fr s H E p).nox := by
    have em := mark_same (env := envOfC qual (defScope st) s.heap.objs.size f cdv) hot
    show ({ cxOf CX0 P w K mg base N qual (defScope st) f cdv A fr s H E with A := (A.deeper (envOfC qual (defScope st) s.heap.objs.size f cdv)).mark (some (.ref p.1)), calm := false, pn := [(p.1, p.2)], xe := fun _ _ => False } : Cx) = _
    rw [em]
    rfl
  rw [ec] at ht
  refine wpAny_mono (ht.nox.run [] s1 (start N vs) H _ I ends) ?_ (fun _ _ q => q)
  intro fl s2 hs
  cases fl with
  | ret u => obtain ⟨v, σ2, H2, J, r2, q⟩ := hs; exact ⟨v, H2, J.os, J.bare, J.base, J.hok, r2, q⟩
  | next => obtain ⟨σ2, H2, J, q⟩ := hs; exact ⟨V.non, H2, J.os, J.bare, J.base, J.hok, rfl, q⟩
  | brk => obtain ⟨_, _, _, q⟩ := hs; exact q.elim
  | cont => obtain ⟨_, _, _, q⟩ := hs; exact q.elim
end
section
variable {X : Cx} {k : Nat} {f : Addr} {fd : FuncData} {ps : List Str} {sp : ESp} {x : Str} {p pos : Pos} {e : Expr} {es : List Expr} {t : TA} {a : Addr} {oe : Obj} {c : Value} {d : Option Addr} {pn : List (Addr × Obj)}
/-- f(err, ..) within the suite that handles err -/
theorem pe_hand (F : Handed X.prog X.w X.K X.mg X.base k f fd ps sp) (hr : L2H.RoomH k X.A) (hz : Zc c d oe) (hf : ∃ v, oe.data = .fields v) (hg : Gl X x) (hm : X.mg x = some (.ref f)) (hk : PySem.W.keepIn X.K (.ref f) = true) (hb : Binds X.K fd ps [])
    (ha : PA (X.suite a ((a, oe) :: pn)) (e :: es) t) (hdb : (x == ("__debug__" : Str)) = false := by decide) (he : starEach (e :: es) X.env = (false, eval e X.env) :: starEach es X.env := by rfl) (hpl : (backTo pos (starEach es X.env)).any (·.1) = false := by rfl) :
    PE (X.suite a ((a, oe) :: pn)) (.Call (.Name x p) (e :: es) [] pos) (tCall (sp a c d) [] E0 t) := by
  refine ⟨fun pins s σ H Q I told => wpAny_Call_Name_kw (ld_glob I hg hm ?_ hdb)⟩
  refine PySem.W.callWith_K (h₀ := X.base) I.ok.mod.kin hk (thn (ha.run pos pins s σ H _ I told) ?_) he hpl
  rintro us s1 ⟨vs, H1, I1, rv, q⟩
  refine ⟨I1.kIn, ?_⟩
  have q : sp a c d (vs ++ []) H1 Q E0 := q
  rw [List.append_nil] at q
  have hl : (us ++ []).length = ps.length := by rw [List.append_nil, ← rv.length]; exact F.many _ _ _ _ _ _ _ q
  have hb1 := hb s1 us I1.kIn hl
  rw [List.append_nil] at hb1
  have at_ := I1.pin (a, oe) (List.mem_append_left _ List.mem_cons_self)
  have pin : L2H.PinOk X.stack H1 s1 (a, oe) := by
    refine ⟨at_.1, at_.2.1, fun hm => ?_, at_.2.2.2.2⟩
    rcases List.mem_cons.mp (I1.stkSub a hm) with z | z
    · exact at_.2.2.1 z
    · exact at_.2.2.2.1 z
  refine wpAny_call (codeAny_mono (F.goes (X.A.mark (some (.ref a))) X.stack s1 H1 ⟨us, []⟩ us vs Q E0 (a, oe) c d ⟨hr.dp, hr.un⟩ rfl hz hf pin I1.env0 hb1 rv q) ?_)
  intro r s2 out
  cases r with
  | error _ => exact False.elim out
  | ok fl =>
    cases fl with
    | ret u => exact I1.after out
    | next => exact False.elim out
    | brk => exact False.elim out
    | cont => exact False.elim out
end
end Kn


/-! Kn: isinstance of a handled error with fields; how many of a list's bools are k. -/
namespace Kn
open PySem PySem.Spec PyProof.Rows L2
/-- what isinstance reads off an error's class -/
structure IsC (K : PySem.W.Frag) (D : Addr) : Prop where
  c : (PySem.W.clsIn K D).isSome = true
  ga : PySem.W.findIn K (.ref D) "__getattribute__" = some (some (.builtin "BaseException.__getattribute__"))
  gg : PySem.W.findIn K (.ref D) "__getattr__" = some none
  ex : PySem.W.subIn K (.ref D) (.type "BaseException") = some true
  ha : PySem.W.findIn K (.ref D) "__class__" = some (some (.builtin "object.__class__"))
  hn : PySem.W.specialIn K (.builtin "object.__class__") "__get__" = some (some (.builtin "getset_descriptor.__get__"))
  ht : PySem.W.takesIn K (.builtin "object.__class__") = some true
  hm : PySem.W.mroIn K D (.type "object") = some true
def rIsF (K : PySem.W.Frag) (D : Addr) (d : Option Addr) (a : Addr) : List V → Hp → VK → Prop := fun xs H Q =>
  ∃ (c : V) (cv : Value) (b : Bool) (dd : Addr) (fs : List (Str × V)), xs = [.ref a, c] ∧ (∀ u, RelV c u → u = cv) ∧ PySem.W.kitOne K (.ref D) cv = some b ∧ d = some dd ∧ H dd = some (.xd fs) ∧ Q (.bl b) H
section
variable {X : Cx}
theorem call_isF {a D : Addr} {d : Option Addr} {oe : Obj} {pn : List (Addr × Obj)} (C : IsC X.K D) (hz : Zc (.ref D) d oe) (hf : ∃ v, oe.data = .fields v) : CallR (X.suite a ((a, oe) :: pn)) (.builtin "isinstance") (rIsF X.K D d a) := by
  rintro pins s σ H xs us Q I rv ⟨c, cv, b, dd, fs, rfl, only, kit, rfl, hd, q⟩
  cases rv with
  | cons r1 rest =>
    cases rest with
    | cons r2 rest =>
      cases rest
      cases r1
      cases only _ r2
      have at_ := (I.pin (a, oe) (List.mem_append_left _ List.mem_cons_self)).1
      obtain ⟨v, dv⟩ := hf
      obtain ⟨m, nsd, _⟩ := (I.hok dd _ hd : ∃ m, s.heap.Ns1 dd m ∧ ∀ f, RelO (fs.lookup f) (m f))
      obtain ⟨od, hod, _⟩ := lookIn_ns nsd
      have inst : PySem.W.InstAt s.heap a oe D (some od) := by
        refine ⟨at_, hz.1, ?_, ?_⟩
        · unfold PySem.W.notCls
          rw [dv] <;> rfl
        · rw [hz.2]
          exact hod
      exact PySem.W.kia_one (PySem.W.kitx_exc C.c C.ga C.gg C.ex C.ha C.hn C.ht C.hm) I.kIn inst kit (fun z => nomatch z) fun tk => ⟨.bl b, H, I.kept (t' := tk) fun _ _ z => z, rfl, q⟩
def rCntB (K : PySem.W.Frag) : V → List V → Hp → VK → Prop := fun x xs H Q => ∃ (p : Addr) (bs : List Bool) (k : Bool), x = .ref p ∧ xs = [.bl k] ∧ SqL K H p (bs.map V.bl) ∧ Q (.int (bs.count k : Nat)) H
theorem bools_of {bs : List Bool} {its : List Value} (h : Vals (bs.map V.bl) its) : its = bs.map Value.bool := by
  induction bs generalizing its with
  | nil => cases h; rfl
  | cons b r ih =>
    cases h with
    | cons r1 rr =>
      cases r1
      rw [ih rr]
      rfl
theorem mt_bcount : MtR X "list.count" (rCntB X.K) := by
  rintro pins s σ H x xs v us Q I rx rxs ⟨p, bs, k, rfl, rfl, hs, q⟩
  cases rx
  obtain ⟨u, rfl, ru⟩ := rxs.one
  cases ru
  obtain ⟨its, rv, ⟨⟨cls, dd, data, sl⟩, n, ho, hc, hdn, hd⟩, hlen⟩ := I.list hs
  dsimp only at hc hd
  subst hc hd
  have e := bools_of rv
  have ec : ∀ bs : List Bool, (bs.map Value.bool).countP (isBoolOf k) = bs.count k := fun bs => by
    induction bs with
    | nil => rfl
    | cons b r ih =>
      rw [List.map_cons, List.countP_cons, List.count_cons, ih]
      rfl
  refine call_meets PySem.F.slot_list_count ⟨_, ho, rfl⟩ PySem.F.entry_list_count (PySem.F.args_list_count_2 _ _) (PySem.SeqAt.list_countAt p its.toArray n dd sl (.bool k) (isBoolOf k)) ⟨ho, fun y hy => ?_, ?_⟩
  · have hy : y ∈ its := by simpa using hy
    rw [e] at hy
    obtain ⟨b, _, rfl⟩ := List.mem_map.mp hy
    exact PySem.SeqAt.EqAt.bool_bool b k
  · refine ⟨.int (bs.count k : Nat), H, I.tok _, ⟨s.toks, ?_⟩, q⟩
    show Value.int ((its.toArray.toList.countP (isBoolOf k) : Nat) : Int) s.toks = _
    have e2 : its.toArray.toList = bs.map Value.bool := e
    rw [e2, ec]
theorem pt_off {e : Expr} : PT X e (fun _ _ _ => False) := ⟨fun _ _ _ _ _ _ h => h.elim⟩
end
end Kn


namespace Kn
open PySem PySem.Spec PyProof.Rows L2
abbrev nCp : List Str := ["web", "marks", "thing", "k", "pair", "first", "led", "row"]
abbrev nIp : List Str := ["web", "marks", "thing"]
abbrev nPl : List Str := ["web", "marks", "thing"]
abbrev nInit : List Str := ["self", "word", "at"]
def spInit (K : PySem.W.Frag) (D : Addr) : Sp := fun vs H Q _ => ∃ (a : Addr) (x y : V), vs = [.ref a, x, y] ∧ H a = some (exo a D none) ∧
  ∀ dx, H dx = none → dx ≠ a → Q .non (upd (upd (upd H dx (exd dx [("word", x)])) a (exo a D (some dx))) dx (exd dx [("at", y), ("word", x)]))
def toPr : PyData → Option (Str × Int)
  | .tuple [.str n, .int m] => some (n, m)
  | _ => none
def goodAt (g : Pg) (p : Int) (ds : List PyData) (k : Nat) : Bool := vpB g p (ds.getD k .none) && (decide (k = 0) || PySem.W.dataLt (ds.getD (k - 1) .none) (ds.getD k .none))
def ledP (g : Pg) (a : Str × Int) (ps : List (Str × Int)) : Bool := ps.all fun s => decide (s = a) || decide (s ∈ lv g ps)
def firstP (g : Pg) (p : Int) (ps : List (Str × Int)) : Bool := !canB g g.asks p || decide ((g.asks, p) ∈ ps)
/-- whether any data is a plan -/
def planD (g : Pg) (p : Int) : PyData → Bool
  | .tuple ds => (List.range ds.length).all (goodAt g p ds) && (ledP g (g.asks, p) (ds.filterMap toPr) && firstP g p (ds.filterMap toPr))
  | _ => false
theorem vp_pr {g : Pg} {p : Int} {d : PyData} (h : vpB g p d = true) : ∃ s, toPr d = some s ∧ d = dPr s ∧ (rowOf g s.1).isSome = true ∧ 0 ≤ s.2 ∧ s.2 ≤ p ∧ canB g s.1 s.2 = true := by
  match d, h with
  | .tuple [.str n, .int m], h =>
    have h : ((rowOf g n).isSome && decide (0 ≤ m) && decide (m ≤ p) && canB g n m) = true := h
    rw [Bool.and_eq_true, Bool.and_eq_true, Bool.and_eq_true] at h
    exact ⟨(n, m), rfl, rfl, h.1.1.1, of_decide_eq_true h.1.1.2, of_decide_eq_true h.1.2, h.2⟩
theorem prs_of {g : Pg} {p : Int} : ∀ {ds : List PyData}, (∀ d ∈ ds, vpB g p d = true) → ds = (ds.filterMap toPr).map dPr ∧ ∀ s ∈ ds.filterMap toPr, (rowOf g s.1).isSome = true
  | [], _ => ⟨rfl, fun _ h => by cases h⟩
  | d :: ds, h => by
    obtain ⟨s, e, ed, r, _⟩ := vp_pr (h d (List.mem_cons_self ..))
    obtain ⟨i1, i2⟩ := prs_of (ds := ds) fun x hx => h x (List.mem_cons_of_mem _ hx)
    rw [List.filterMap_cons_some e]
    refine ⟨?_, fun x hx => ?_⟩
    · rw [List.map_cons, ← i1, ← ed]
    · rcases List.mem_cons.mp hx with rfl | hx
      · exact r
      · exact i2 x hx
theorem all_ok {g : Pg} {p : Int} {ds : List PyData} (h : ∀ k, k < ds.length → goodAt g p ds k = true) : ∀ d ∈ ds, vpB g p d = true := fun d hd => by
  obtain ⟨k, hk, e⟩ := List.mem_iff_getElem.mp hd
  have z := h k hk
  unfold goodAt at z
  rw [Bool.and_eq_true, List.getD_eq_getElem?_getD, List.getElem?_eq_getElem hk, e] at z
  exact z.1
theorem name_ascii {x : Str} (h : nameB (.str x) = true) : goodD (.str x) = true := by
  have h : (decide (1 ≤ x.length) && decide (x.length ≤ 8) && lowB x) = true := h
  rw [Bool.and_eq_true] at h
  have z := List.all_eq_true.mp h.2
  refine List.all_eq_true.mpr fun c hc => ?_
  have y := z c hc
  exact decide_eq_true (by have := of_decide_eq_true y; omega)
theorem pr_good {n : Str} {m : Int} (h : nameB (.str n) = true) (b : m.natAbs < 1000) : goodD (dPr (n, m)) = true := by
  show (goodD (.str n) && (goodD (.int m) && true)) = true
  rw [name_ascii h]
  have z : goodD (.int m) = true := decide_eq_true (Nat.lt_of_lt_of_le b (by decide))
  rw [z]
  rfl
theorem pr_eqv (s t : Str × Int) : PyData.eqv (dPr s) (dPr t) = decide (s = t) := by
  have e : PyData.eqv (dPr s) (dPr t) = ((s.1 == t.1) && ((s.2 == t.2) && true)) := rfl
  rw [e, Bool.and_true]
  by_cases h1 : s.1 = t.1
  · by_cases h2 : s.2 = t.2
    · rw [beq_iff_eq.mpr h1, beq_iff_eq.mpr h2, decide_eq_true (Prod.ext h1 h2)]
      rfl
    · rw [beq_eq_false_iff_ne.mpr h2, Bool.and_false, decide_eq_false (fun z => h2 (by rw [z]))]
  · rw [beq_eq_false_iff_ne.mpr h1, Bool.false_and, decide_eq_false (fun z => h1 (by rw [z]))]
theorem any_pr {ps : List (Str × Int)} {s : Str × Int} : ((ps.map dPr).any fun z => PyData.eqv z (dPr s)) = decide (s ∈ ps) := by
  rw [List.any_map]
  by_cases h : s ∈ ps
  · rw [decide_eq_true h, List.any_eq_true]
    exact ⟨s, h, by show PyData.eqv (dPr s) (dPr s) = true; rw [pr_eqv, decide_eq_true rfl]⟩
  · rw [decide_eq_false h, List.any_eq_false]
    intro x hx z
    have z : PyData.eqv (dPr x) (dPr s) = true := z
    rw [pr_eqv] at z
    exact h (of_decide_eq_true z ▸ hx)
def spCp (K : PySem.W.Frag) (D : Addr) : Sp := fun vs H Q E => ∃ (w v : V) (g : Pg) (p : Int) (d : PyData), vs = [w, .int p, v] ∧ PgAt K H w g ∧ GW g ∧ p.natAbs < 1000 ∧ Dp K H v d ∧ Nice d ∧
  (planD g p d = true → ∀ H', Same H H' → Q .non H') ∧ (planD g p d = false → ∀ (dx : Addr) (H' : Hp), Same H H' → E (.ref D) (some dx) H')
section
variable {P : Program} {w : World} {K : PySem.W.Frag} {mg : Str → Option Value} {base : Heap}
theorem made_raise {H : Hp} {a dx : Addr} {o1 o2 o3 o4 : HO} {fs : List (Str × V)} (ha : H a = none) (ne : dx ≠ a) : upd (del (upd (upd (upd (upd H a o1) dx o2) a o3) dx o4) a) dx (.xd fs) = upd H dx (.xd fs) := by
  funext b
  by_cases h1 : b = dx
  · rw [h1, upd_same, upd_same]
  · rw [upd_ne h1, upd_ne h1]
    by_cases h2 : b = a
    · rw [h2, del_same, ha]
    · rw [del_ne h2, upd_ne h1, upd_ne h2, upd_ne h1, upd_ne h2]
theorem raises {D : Addr} {tt : TE} {σ : L2.St} {H G : Hp} {E : XK} {x : Str} {v : V} (hv : ∀ R : VK, R v G → tt σ G R) (sm : Same H G) (q : ∀ (dx : Addr) (H' : Hp), Same H H' → E (.ref D) (some dx) H') :
    tMkO D (spInit K D) [] (tCons (tC (.str x)) (tCons tt tNil)) σ G fun c d H' => E c d H' := by
  refine hv _ ⟨(show 2 ≤ 1000 by decide), fun a ha => ⟨a, .str x, v, rfl, upd_same, fun dx nd ne => ⟨rfl, dx, _, ?_, upd_same, ?_, ?_⟩⟩⟩
  · rw [upd_ne ne.symm, upd_same]
  · rw [upd_ne ne] at nd
    exact nd
  · rw [upd_ne ne] at nd
    show E _ _ _
    rw [made_raise ha ne]
    exact q dx _ (putS sm (sm.free nd))
end
end Kn


namespace Kn
open PySem PySem.Spec PyProof.Rows L2
def spIp (K : PySem.W.Frag) : Sp := fun vs H Q _ => ∃ (w v : V) (g : Pg) (p : Int) (d : PyData), vs = [w, .int p, v] ∧ PgAt K H w g ∧ GW g ∧ p.natAbs < 1000 ∧ Dp K H v d ∧ Nice d ∧ ∀ H', Same H H' → Q (.bl (planD g p d)) H'
def spPl (K : PySem.W.Frag) : Sp := fun vs H Q _ => ∃ (w v : V) (g : Pg) (p : Int) (d : PyData), vs = [w, .int p, v] ∧ PgAt K H w g ∧ GW g ∧ 0 ≤ p ∧ p.natAbs < 1000 ∧ Dp K H v d ∧ Nice d ∧ ∀ H', Same H H' → Q (.bl (planD g p d)) H'
section
variable {P : Program} {w : World} {K : PySem.W.Frag} {mg : Str → Option Value} {base : Heap}
end
end Kn


/-! Kn: a comprehension over a list that is made on the way. -/
namespace Kn
open PySem PySem.Spec PyProof.Rows L2
theorem lc_mapL3 {K : PySem.W.Frag} {xs : List V} {slot : Nat} {te tl : TE} {vs : List Nat} {σ : L2.St} {H : Hp} {Q : VK} (ys : List V) (hl : ys.length = xs.length) (hs : xs.length ≤ 1000)
    (htl : ∀ R : VK, (∀ (a : Addr) (H1 : Hp), Same H H1 → SqL K H1 a xs → R (.ref a) H1) → tl σ H R) (w : ∀ v, wipe ((wipe σ vs).set slot (some v)) vs = wipe σ vs)
    (turn : ∀ (i : Nat) (x y : V) (G : Hp) (R : VK), xs[i]? = some x → ys[i]? = some y → Same H G → (∀ G', Same G G' → R y G') → te ((wipe σ vs).set slot (some x)) G R)
    (done : ∀ (D : Addr) (G : Hp), Same H G → G D = some (.lst ys) → Q (.ref D) G) : tLc (iList K tl) (gName slot) tYes te vs σ H Q := by
  refine htl _ fun a H1 s1 hT => ?_
  show tLc (iList K (fun _ H R => R (V.ref a) H)) (gName slot) tYes te vs σ H1 Q
  exact lc_mapL ys hl hs hT (fun R r => r) w (fun i x y G R hx hy s k => turn i x y G R hx hy (s1.trans s) k) (fun D G _ s e => done D G (s1.trans s) e)
end Kn


namespace Kn
open PySem PySem.Spec PyProof.Rows L2
theorem pick1 {H : Hp} {K : PySem.W.Frag} {x : Str} {e : Ent} : ∀ {ws : List V} {es : List Ent}, EntsAt K H ws es → es.find? (fun e : Ent => decide (e.name = x)) = some e → ∃ r rest, (((ws.zip es).map fun p => (decide (p.2.name = x), p.1)).filter (·.1)).map (·.2) = r :: rest ∧ EntAt K H r e
  | _, _, .nil, h => by cases h
  | _, _, .cons (v := v) (vs := vs) (e := o) (es := es) a b, h => by
    rw [List.zip_cons_cons, List.map_cons, List.filter_cons]
    rw [List.find?_cons] at h
    by_cases z : o.name = x
    · rw [decide_eq_true z] at h
      cases h
      dsimp only
      rw [decide_eq_true z, if_pos rfl, List.map_cons]
      exact ⟨_, _, rfl, a⟩
    · rw [decide_eq_false z] at h
      dsimp only
      rw [decide_eq_false z, if_neg Bool.false_ne_true]
      exact pick1 b h
def spLk (K : PySem.W.Frag) : Sp := fun vs H Q _ => ∃ (v : V) (g : Pg) (n : Str) (e : Ent), vs = [v, .str n] ∧ PgAt K H v g ∧ g.es.length ≤ 1000 ∧ rowOf g n = some e ∧ ∀ r H', Same H H' → EntAt K H' r e → Q r H'
def spLc (K : PySem.W.Frag) : Sp := fun vs H Q _ => ∃ (w v : V) (g : Pg) (s : Str × Int), vs = [w, v] ∧ PgAt K H w g ∧ g.es.length ≤ 1000 ∧ Dp K H v (dPr s) ∧ (rowOf g s.1).isSome = true ∧ ∀ (H' : Hp), Same H H' → Q (.bl (canB g s.1 s.2)) H'
section
variable {P : Program} {w : World} {K : PySem.W.Frag} {mg : Str → Option Value} {base : Heap}
end
end Kn


/-! Kn: keys of any depth in sets: what is asked of a key aside of == and hash. -/
namespace Kn
open PySem PySem.Spec PyProof.Rows L2
section
variable {P : Program} {w : World}
/-- a question asked of a value: it ends with this answer, and nothing is changed -/
def Told (P : Program) (w : World) (s : Shared) (m : Sem Bool) (b : Bool) : Prop := ∀ (A : Around) (E : Value → Shared → Prop) (Q : Bool → Shared → Prop), Q b s → wpAny (model P w) A m Q E s
theorem told_pure {s : Shared} {b : Bool} : Told P w s (pure b) b := fun _ _ _ q => wpAny_pure q
/-- none of the items is of a class statement -/
theorem none_of {n : Nat} {s : Shared} : ∀ (vs : List Value), (∀ v ∈ vs, Told P w s (ofAClassStatement n v) false) → ∀ {A : Around} {E : Value → Shared → Prop} {Q : Option Bool × Unit → Shared → Prop}, Q (none, ()) s →
    wpAny (model P w) A (forIn vs ((none, ()) : Option Bool × Unit) fun y r => do
      if ← ofAClassStatement n y then return ForInStep.done (some true, ())
      return ForInStep.yield (none, ())) Q E s
  | [], _, A, E, Q, q => wpAny_pure q
  | v :: r, h, A, E, Q, q => by
    rw [List.forIn_cons]
    refine wpAny_bind (wpAny_bind (h v (List.mem_cons_self ..) A E _ ?_))
    simp only [Bool.false_eq_true, if_false]
    exact wpAny_pure (none_of r (fun x hx => h x (List.mem_cons_of_mem _ hx)) q)
theorem all_by {n : Nat} {s : Shared} : ∀ (vs : List Value), (∀ v ∈ vs, ∃ b, Told P w s (hashByValue n v) b) → ∃ x : Option Bool, ∀ {A : Around} {E : Value → Shared → Prop} {Q : Option Bool × Unit → Shared → Prop}, Q (x, ()) s →
    wpAny (model P w) A (forIn vs ((none, ()) : Option Bool × Unit) fun y r => do
      if !(← hashByValue n y) then return ForInStep.done (some false, ())
      return ForInStep.yield (none, ())) Q E s
  | [], _ => ⟨none, fun q => wpAny_pure q⟩
  | v :: r, h => by
    obtain ⟨b, hb⟩ := h v (List.mem_cons_self ..)
    obtain ⟨x, hx⟩ := all_by r fun u hu => h u (List.mem_cons_of_mem _ hu)
    cases b
    · refine ⟨some false, fun {A E Q} q => ?_⟩
      rw [List.forIn_cons]
      refine wpAny_bind (wpAny_bind (hb A E _ ?_))
      simp only [Bool.not_false, if_true]
      exact wpAny_pure (wpAny_pure q)
    · refine ⟨x, fun {A E Q} q => ?_⟩
      rw [List.forIn_cons]
      refine wpAny_bind (wpAny_bind (hb A E _ ?_))
      simp only [Bool.not_true, Bool.false_eq_true, if_false]
      exact wpAny_pure (hx q)
theorem class_tup {n : Nat} {s : Shared} {a : Addr} {o : Obj} {vs : Array Value} {m : Nat} (ho : s.heap.get? a = some o) (hc : o.cls = .type "tuple") (hd : o.data = .seq vs m) (h : ∀ v ∈ vs.toList, Told P w s (ofAClassStatement n v) false) :
    Told P w s (ofAClassStatement (n + 1) (.ref a)) false := fun A E Q q => by
  have ty : s.TypeIs (.ref a) "tuple" := ⟨o, ho, hc⟩
  unfold ofAClassStatement
  refine wpAny_bind (wpAny_typeOf ty ?_)
  dsimp only
  simp only [show (("tuple" : String) == "tuple") = true by decide, if_true, Bool.not_true, Bool.false_eq_true, if_false]
  try refine wpAny_bind (wpAny_pure ?_)
  try simp only [Bool.not_true, Bool.false_eq_true, if_false]
  refine wpAny_bind (wpAny_seqItems ho hd ?_)
  dsimp only
  refine wpAny_bind ?_
  rw [← Array.forIn_toList]
  refine none_of vs.toList h ?_
  exact wpAny_pure q
theorem hash_tup {n : Nat} {s : Shared} {a : Addr} {o : Obj} {vs : Array Value} {m : Nat} (ho : s.heap.get? a = some o) (hc : o.cls = .type "tuple") (hd : o.data = .seq vs m) (h : ∀ v ∈ vs.toList, ∃ b, Told P w s (hashByValue n v) b) :
    ∃ b, Told P w s (hashByValue (n + 1) (.ref a)) b := by
  have ty : s.TypeIs (.ref a) "tuple" := ⟨o, ho, hc⟩
  obtain ⟨x, hx⟩ := all_by vs.toList h
  refine ⟨x.getD true, fun A E Q q => ?_⟩
  unfold hashByValue
  refine wpAny_bind (wpAny_specialOf ty F.slot_tuple_hash.lookup ?_)
  dsimp only
  refine wpAny_bind (wpAny_seqItems ho hd ?_)
  refine wpAny_bind ?_
  simp only [Option.getD_some]
  rw [← Array.forIn_toList]
  refine hx ?_
  cases x with
  | none => exact wpAny_pure q
  | some b => exact wpAny_pure q
mutual
theorem key_class : ∀ (k : NestedKey) (v : Value) (n : Nat) (s : Shared), NestedIs s.heap k v → k.depth ≤ n → Told P w s (ofAClassStatement n v) false
  | .none, _, n, s, x, _ => by cases x; cases n <;> exact told_pure
  | .num i, _, n, s, x, _ => by cases x <;> (cases n <;> exact told_pure)
  | .text y, _, n, s, x, _ => by cases x; cases n <;> exact told_pure
  | .tup ks, _, n, s, x, hn => by
    cases x with
    | tup h1 h2 h3 h4 =>
      simp only [NestedKey.depth] at hn
      cases n with
      | zero => omega
      | succ n => exact class_tup h1 h2 h3 (keys_class ks _ n s h4 (by omega))
theorem keys_class : ∀ (ks : List NestedKey) (vs : List Value) (n : Nat) (s : Shared), NestedAll s.heap ks vs → NestedKey.depthAll ks ≤ n → ∀ v ∈ vs, Told P w s (ofAClassStatement n v) false
  | [], _, n, s, x, _, v, hv => by cases x; cases hv
  | k :: ks, _, n, s, x, hn, v, hv => by
    cases x with
    | cons x1 x2 =>
      simp only [NestedKey.depthAll] at hn
      rcases List.mem_cons.mp hv with e | hv
      · rw [e]; exact key_class k _ n s x1 (by omega)
      · exact keys_class ks _ n s x2 (by omega) v hv
end
mutual
theorem key_byv : ∀ (k : NestedKey) (v : Value) (n : Nat) (s : Shared), NestedIs s.heap k v → k.depth ≤ n → ∃ b, Told P w s (hashByValue n v) b
  | .none, _, n, s, x, _ => by cases x; exact ⟨true, by cases n <;> exact told_pure⟩
  | .num i, _, n, s, x, _ => by cases x <;> exact ⟨true, by cases n <;> exact told_pure⟩
  | .text y, _, n, s, x, _ => by cases x; exact ⟨false, by cases n <;> exact told_pure⟩
  | .tup ks, _, n, s, x, hn => by
    cases x with
    | tup h1 h2 h3 h4 =>
      simp only [NestedKey.depth] at hn
      cases n with
      | zero => omega
      | succ n => exact hash_tup h1 h2 h3 (keys_byv ks _ n s h4 (by omega))
theorem keys_byv : ∀ (ks : List NestedKey) (vs : List Value) (n : Nat) (s : Shared), NestedAll s.heap ks vs → NestedKey.depthAll ks ≤ n → ∀ v ∈ vs, ∃ b, Told P w s (hashByValue n v) b
  | [], _, n, s, x, _, v, hv => by cases x; cases hv
  | k :: ks, _, n, s, x, hn, v, hv => by
    cases x with
    | cons x1 x2 =>
      simp only [NestedKey.depthAll] at hn
      rcases List.mem_cons.mp hv with e | hv
      · rw [e]; exact key_byv k _ n s x1 (by omega)
      · exact keys_byv ks _ n s x2 (by omega) v hv
end
/-- the value at an address is a key -/
def KeyAt (h : Heap) (m : Addr × NestedKey) : Prop := NestedIs h m.2 (.ref m.1) ∧ m.2.depth ≤ 8
theorem unseen {s : Shared} {x : Addr} {k : NestedKey} (hx : KeyAt s.heap (x, k)) : ∀ (ys : List Value), (∀ y ∈ ys, ∃ m, y = Value.ref m.1 ∧ KeyAt s.heap m) → Told P w s (searchCouldBeSeen (.ref x) ys) false := by
  intro ys hy A E Q q
  unfold searchCouldBeSeen
  refine wpAny_bind ?_
  refine wpAny_forIn_list _ (fun rest r s' => r.1 = none ∧ s' = s ∧ ∀ y ∈ rest, ∃ m, y = Value.ref m.1 ∧ KeyAt s.heap m) _ ?_ ?_ _ _ ⟨rfl, rfl, hy⟩
  · rintro z rest r s' ⟨_, rfl, hz⟩
    obtain ⟨m, rfl, hm⟩ := hz z (List.mem_cons_self ..)
    have hr := fun y (h : y ∈ rest) => hz y (List.mem_cons_of_mem _ h)
    dsimp only
    by_cases c : (x == m.1 || (carriedByValue (.ref x) && carriedByValue (.ref m.1))) = true
    · exact wp_if_pos c (wpAny_pure ⟨rfl, rfl, hr⟩)
    · refine wp_if_neg c (wpAny_bind (quiet_key _ _ 8 s' hx.1 hx.2 _ _ _ ?_))
      simp only [Bool.not_true, Bool.false_eq_true, if_false]
      refine wpAny_bind (quiet_key _ _ 8 s' hm.1 hm.2 _ _ _ ?_)
      simp only [Bool.not_true, Bool.false_eq_true, if_false]
      refine wpAny_bind (key_class _ _ 8 s' hx.1 hx.2 _ _ _ ?_)
      simp only [Bool.false_eq_true, if_false]
      refine wpAny_bind (key_class _ _ 8 s' hm.1 hm.2 _ _ _ ?_)
      simp only [Bool.false_eq_true, if_false]
      exact wpAny_pure ⟨rfl, rfl, hr⟩
  · rintro ⟨r1, r2⟩ s' ⟨e, rfl, _⟩
    simp only at e
    subst e
    exact wpAny_pure q
end
end Kn


/-! Kn: tables of sets of one size more: 16 places, as a dict of five to seven keys has them laid. -/
namespace Kn
open PySem PySem.Spec PyProof.Rows L2
/-- the masks: those of a set that grows by itself, and one of a dict's -/
def MaskX (m : Nat) : Prop := MaskOk m ∨ m = 15
theorem MaskX.odd {m : Nat} (h : MaskX m) : m % 2 = 1 := h.elim mask_odd fun e => by rw [e]
theorem MaskX.top {m : Nat} (h : MaskX m) : m ≤ 127 := by
  rcases h with (e | e | e) | e <;> omega
theorem ring15 : ((List.range 16).all fun i => (List.range 16).all fun j => (List.range 16).any fun c => lcgI 15 i c == j) = true := by decide +kernel
theorem MaskX.meets {m : Nat} (hm : MaskX m) (h : Int) {j : Nat} (hj : j ≤ m) : ∃ c, c < 10 * SetTable.turns m ∧ way m h c = j := by
  rcases hm with ok | rfl
  · exact nth_meets ok h hj
  · have z := List.all_eq_true.mp ring15 _ (List.mem_range.mpr (Nat.lt_succ_of_le (runI_le 15 (SetTable.bits h) 12)))
    obtain ⟨c, hc, e⟩ := List.any_eq_true.mp (List.all_eq_true.mp z j (List.mem_range.mpr (by omega)))
    have hc := List.mem_range.mp hc
    obtain ⟨q, hq, e2⟩ := run_nth 15 (SetTable.bits h) (12 + c)
    refine ⟨q, ?_, ?_⟩
    · show q < 10 * 30
      omega
    · show (nth 15 (runAt 15 (SetTable.bits h % (15 + 1)) (SetTable.bits h)) q).j = j
      rw [e2, runI_tail (bits_lt h)]
      exact beq_iff_eq.mp e
theorem way_in (m : Nat) (h : Int) (c : Nat) : way m h c ≤ m := by
  have a : SetTable.bits h % (m + 1) ≤ m := Nat.le_of_lt_succ (Nat.mod_lt _ (Nat.succ_pos _))
  have b := runEnd_bd a
  have z := nth_in c (runAt m (SetTable.bits h % (m + 1)) (SetTable.bits h)) (show SetTable.bits h % (m + 1) + (SetTable.runEnd m (SetTable.bits h % (m + 1)) - SetTable.bits h % (m + 1)) ≤ m by omega)
  exact Nat.le_trans (Nat.le_add_right _ _) z
/-- a table in which each hash is found on its way -/
structure TabX (t : SetTable) (hs : List Int) : Prop where
  asc : Ris t.place.toList
  bare : t.dummies = #[]
  many : t.place.size = hs.length
  mask : MaskX t.mask
  low : ∀ p ∈ t.place.toList, p ≤ t.mask
  met : ∀ (n : Nat) (h : Int) (p : Nat), hs[n]? = some h → t.place.toList[n]? = some p → ∃ c, way t.mask h c = p ∧ ∀ b, b < c → way t.mask h b ∈ t.place.toList
section
variable {t : SetTable} {hs : List Int}
theorem TabX.of (T : TabOk t hs) : TabX t hs := ⟨T.ris, T.dm, T.sz, .inl T.mok, T.bd, T.reach⟩
theorem TabX.long (T : TabX t hs) : t.place.toList.length = hs.length := by rw [Array.length_toList, T.many]
theorem TabX.hole (T : TabX t hs) (few : hs.length ≤ t.mask) (h : Int) : ∃ K, K < 10 * SetTable.turns t.mask ∧ way t.mask h K ∉ t.place.toList ∧ ∀ c, c < K → way t.mask h c ∈ t.place.toList := by
  obtain ⟨j, lj, nj⟩ := st_missing t.place.toList (t.mask + 1) (by rw [T.long]; omega)
  obtain ⟨c, lc, ec⟩ := T.mask.meets h (Nat.le_of_lt_succ lj)
  obtain ⟨K, lK, nK, old⟩ := st_least (p := fun c => way t.mask h c ∉ t.place.toList) c (fun z => nj (ec ▸ z))
  exact ⟨K, Nat.lt_of_le_of_lt lK lc, nK, fun b hb => Classical.byContradiction fun z => old b hb z⟩
theorem TabX.ahead (T : TabX t hs) {h : Int} {K n p : Nat} (nK : way t.mask h K ∉ t.place.toList) (hn : hs[n]? = some h) (hp : t.place.toList[n]? = some p) : ∃ c, c < K ∧ way t.mask h c = p := by
  obtain ⟨c, e, full⟩ := T.met n h p hn hp
  refine ⟨c, Nat.lt_of_not_le fun le => nK ?_, e⟩
  rcases Nat.eq_or_lt_of_le le with z | z
  · rw [z, e]; exact List.mem_of_getElem? hp
  · exact full K z
/-- one more, at the first empty place of its way -/
theorem TabX.grow (T : TabX t hs) {h : Int} {K j : Nat} (ej : way t.mask h K = j) (nj : j ∉ t.place.toList) (full : ∀ c, c < K → way t.mask h c ∈ t.place.toList) :
    SetTable.below t.place j ≤ hs.length ∧ TabX (t.put j).1 (hs.take (SetTable.below t.place j) ++ h :: hs.drop (SetTable.below t.place j)) ∧ (t.put j).1.fill = hs.length + 1 := by
  obtain ⟨lb, _, _⟩ := below_cut T.asc j
  have pl := put_place t j
  have dm := put_dm T.bare j
  have lo := T.long
  have new : t.place[SetTable.below t.place j]? ≠ some j := fun e => nj (List.mem_of_getElem? ((Array.getElem?_toList ..).trans e))
  have rs := ris_insert T.asc new
  have lh : SetTable.below t.place j ≤ hs.length := T.many ▸ lb
  have lp : SetTable.below t.place j ≤ t.place.toList.length := lo ▸ lh
  generalize SetTable.below t.place j = p at pl lh lp
  have len : (t.put j).1.place.size = hs.length + 1 := by rw [← Array.length_toList, pl, len_ins _ lp, lo]
  have inn : ∀ {x : Nat}, x ∈ (t.put j).1.place.toList ↔ x = j ∨ x ∈ t.place.toList := by
    intro x
    rw [pl]
    exact mem_ins
  refine ⟨lh, ⟨rs, dm, by rw [len, len_ins _ lh], T.mask, fun x hx => ?_, fun n h' p' e1 e2 => ?_⟩, by show _ + _ = _; rw [len, dm]; rfl⟩
  · rcases inn.mp hx with z | z
    · rw [z, ← ej]; exact way_in _ _ _
    · exact T.low x z
  · have wide : ∀ {c : Nat} {g : Int}, (∀ b, b < c → way t.mask g b ∈ t.place.toList) → ∀ b, b < c → way t.mask g b ∈ (t.put j).1.place.toList := fun f b hb => inn.mpr (.inr (f b hb))
    rw [tins_get hs lh] at e1
    rw [pl, tins_get _ lp] at e2
    rcases Nat.lt_trichotomy n p with z | z | z
    · rw [if_pos z] at e1 e2
      obtain ⟨c, a, b⟩ := T.met n h' p' e1 e2
      exact ⟨c, a, wide b⟩
    · rw [if_neg (by omega), if_pos z] at e1 e2
      cases e1
      cases e2
      exact ⟨K, ej, wide full⟩
    · rw [if_neg (by omega), if_neg (by omega)] at e1 e2
      obtain ⟨c, a, b⟩ := T.met (n - 1) h' p' e1 e2
      exact ⟨c, a, wide b⟩
end
end Kn


/-! Kn: a set of keys of any depth, and looking for one in it. -/
namespace Kn
open PySem PySem.Spec PyProof.Rows L2
abbrev Mem := Addr × NestedKey
abbrev hk (w : World) (m : Mem) : Int := m.2.hash w
abbrev cell (w : World) (m : Mem) : Int × Value := (hk w m, Value.ref m.1)
/-- what stands in the table -/
structure Tab (w : World) (C : Nat) (M : List Mem) (es : Array (Int × Value)) (t : SetTable) : Prop where
  rows : es.toList = M.map (cell w)
  ok : TabX t (M.map (hk w))
  led : w.params.followText "set-order" = true ∨ t.led = true
  air : M.length * 5 < t.mask * 3
  nd : (M.map (·.2)).Nodup
  few : M.length < 64
  cap : t.mask = 15 → C ≤ 8
section
variable {P : Program} {w : World} {A : Around} {E : Value → Shared → Prop} {s : Shared} {a : Addr} {M : List Mem} {es : Array (Int × Value)} {ep C : Nat} {t : SetTable}
theorem Tab.size (T : Tab w C M es t) : es.size = M.length := by
  rw [← Array.length_toList, T.rows, List.length_map]
theorem Tab.fits (T : Tab w C M es t) : t.fits es.size = true := by
  have z1 := T.ok.many
  rw [List.length_map] at z1
  have z2 := T.size
  have z3 := T.air
  unfold SetTable.fits SetTable.fill
  rw [T.ok.bare, Bool.and_eq_true]
  exact ⟨beq_iff_eq.mpr (by omega), decide_eq_true (by show t.place.size + 0 ≤ t.mask; omega)⟩
theorem Tab.at_ (T : Tab w C M es t) {i : Nat} {m : Mem} (h : M[i]? = some m) : es[i]? = some (cell w m) := by
  have z : es.toList[i]? = some (cell w m) := by rw [T.rows, List.getElem?_map, h]; rfl
  rwa [Array.getElem?_toList] at z
theorem Tab.hash_at (T : Tab w C M es t) {i : Nat} {m : Mem} (h : M[i]? = some m) : (es[i]?.map (·.1)).getD 0 = hk w m := by
  rw [T.at_ h]
  rfl
/-- the c-th place of the way of a hash -/
abbrev stepOf (t : SetTable) (h : Int) (c : Nat) : SetTable.Probe := nth t.mask (runAt t.mask (SetTable.bits h % (t.mask + 1)) (SetTable.bits h)) c
theorem step_j (t : SetTable) (h : Int) (c : Nat) : (stepOf t h c).j = way t.mask h c := rfl
theorem step_add (t : SetTable) (h : Int) (c q : Nat) : nth t.mask (stepOf t h c) q = stepOf t h (c + q) := (nth_add t.mask c _ q).symm
theorem nth_dummy (m : Nat) : ∀ (n : Nat) (p : SetTable.Probe), p.dummy = none → (nth m p n).dummy = none
  | 0, _, h => h
  | n + 1, p, h => nth_dummy m n (adv m p) (by unfold adv; split <;> exact h)
theorem step_dummy (t : SetTable) (h : Int) (c : Nat) : (stepOf t h c).dummy = none := nth_dummy t.mask c _ rfl
/-- looking for x, from the c-th place on; K is the first empty one -/
theorem look_from {o : Obj} (T : Tab w C M es t) (ho : s.heap.get? a = some o) (hd : o.data = .set es ep t) (keys : ∀ m ∈ M, KeyAt s.heap m) {x : Mem} (hx : KeyAt s.heap x) (hu : A.units + 8 < cLine) {K : Nat} (few : K < 10 * SetTable.turns t.mask)
    (free : way t.mask (hk w x) K ∉ t.place.toList) (full : ∀ c, c < K → way t.mask (hk w x) c ∈ t.place.toList) {Q : SetFound → Shared → Prop}
    (yes : x.2 ∈ M.map (·.2) → Q (.there none) s) (no : x.2 ∉ M.map (·.2) → Q (.free (way t.mask (hk w x) K) false) s) :
    ∀ (f c : Nat) (st : Option SetTable.Probe), st.getD (t.probeStart (hk w x)) = stepOf t (hk w x) c → c ≤ K → K - c < f →
      (∀ (i : Nat) (m : Mem), M[i]? = some m → m.2 = x.2 → ∃ c', c ≤ c' ∧ c' < K ∧ t.place.toList[i]? = some (way t.mask (hk w x) c')) →
      wpAny (model P w) A (setSearchFrom a (.ref x.1) (hk w x) true f st) Q E s := by
  intro f
  induction f with
  | zero => exact fun c st _ _ hf _ => absurd hf (Nat.not_lt_zero _)
  | succ f ih =>
    intro c st hst hc hf left
    rw [setSearchFrom_succ]
    refine wpAny_bind (wpAny_setState_of ho hd T.fits ?_)
    dsimp only
    have gw : ¬ t.gaveWay = true := by
      unfold SetTable.gaveWay
      rw [T.ok.mask.odd]
      decide
    refine wp_if_neg gw ?_
    try refine wpAny_bind (wpAny_pure ?_)
    have sp := go_spec t T.ok.asc T.ok.bare (fun i => (es[i]?.map (·.1)).getD 0) (hk w x) (10 * SetTable.turns t.mask) (K - c) (stepOf t (hk w x) c) (step_dummy t _ c) (by omega)
      (fun q hq => by rw [step_add, step_j]; exact full _ (by omega)) (by rw [step_add, step_j, Nat.add_sub_cancel' hc]; exact free)
    -- one that is passed has another key
    have passed : ∀ (q : Nat), (∀ (q' i' : Nat), q' < q → t.place.toList[i']? = some (nth t.mask (stepOf t (hk w x) c) q').j → (es[i']?.map (·.1)).getD 0 ≠ hk w x) →
        ∀ (i : Nat) (m : Mem), M[i]? = some m → m.2 = x.2 → ∀ c', c ≤ c' → c' < c + q → t.place.toList[i]? ≠ some (way t.mask (hk w x) c') := by
      intro q nq i m hi hm c' h1 h2 h3
      refine nq (c' - c) i (by omega) (by rw [step_add, step_j, Nat.add_sub_cancel' h1]; exact h3) ?_
      rw [T.hash_at hi]
      exact congrArg (NestedKey.hash w) hm
    rcases sp with ⟨q, i, hq, hi, hh, nq, pr⟩ | ⟨nq, pr⟩
    · have pr' : t.probe (fun i => (es[i]?.map (·.1)).getD 0) (hk w x) (st.getD (t.probeStart (hk w x))) = some (.candidate (way t.mask (hk w x) (c + q)) i (stepOf t (hk w x) (c + (q + 1)))) := by
        rw [hst, ← step_j, ← step_add t (hk w x) c q, ← step_add t (hk w x) c (q + 1)]
        exact pr
      rw [step_add, step_j] at hi
      have inM : i < M.length := by
        have z1 := (List.getElem?_eq_some_iff.mp hi).1
        have z2 := T.ok.many
        rw [List.length_map] at z2
        rw [Array.length_toList] at z1
        omega
      obtain ⟨m, hm⟩ : ∃ m, M[i]? = some m := ⟨M[i], List.getElem?_eq_getElem inM⟩
      have mM := List.mem_of_getElem? hm
      have km := keys m mM
      have live : t.slot (way t.mask (hk w x) (c + q)) = .live i := slot_live T.ok.asc hi
      rw [pr']
      dsimp only
      have rest : wpAny (model P w) A (searchRest a (.ref x.1) (hk w x) true f es t (way t.mask (hk w x) (c + q)) i (stepOf t (hk w x) (c + (q + 1)))) Q E s := by
        unfold searchRest
        rw [T.at_ hm]
        dsimp only
        refine wpAny_bind (wpAny_holding ((nestedKind P w).eqBool (show A.units + 8 < cLine from hu) (x := m.2) (y := x.2) km hx ?_))
        refine wpAny_bind (wpAny_setState_of ho hd T.fits ?_)
        dsimp only
        by_cases same : m.2 = x.2
        · exact wp_if_pos (by simp [same]) (wpAny_pure (yes (List.mem_map.mpr ⟨m, mM, same⟩)))
        · refine wp_if_neg (by simp [same]) ?_
          try refine wpAny_bind (wpAny_pure ?_)
          rw [sameMem]
          dsimp only
          simp only [if_true, live, T.at_ hm]
          refine wpAny_bind (wpAny_isSame_ref_self (wpAny_bind (wpAny_pure ?_)))
          simp only [if_true]
          refine wp_if_neg (by simp [same]) (ih (c + (q + 1)) _ rfl (by omega) (by omega) fun i' m' hi' hm' => ?_)
          obtain ⟨c', b1, b2, b3⟩ := left i' m' hi' hm'
          refine ⟨c', ?_, b2, b3⟩
          rcases Nat.lt_trichotomy c' (c + q) with z | z | z
          · exact absurd b3 (passed q nq i' m' hi' hm' c' b1 z)
          · rw [z] at b3
            have e := (slot_live T.ok.asc b3).symm.trans live
            injection e with e
            rw [e, hm] at hi'
            exact absurd (congrArg Prod.snd (Option.some.inj hi') ▸ hm') same
          · omega
      by_cases ld : t.led = true
      · refine wp_if_neg (by simp [ld]) ?_
        try refine wpAny_bind (wpAny_pure ?_)
        exact rest
      · refine wp_if_pos (by simp [ld]) (wpAny_bind (unseen hx _ (fun y hy => ?_) _ _ _ ?_))
        · obtain ⟨e, he, rfl⟩ := List.mem_map.mp hy
          have he : e ∈ es.toList := by
            have z : e ∈ es ∧ e.1 = hk w x := by simpa using he
            simpa using z.1
          rw [T.rows] at he
          obtain ⟨m', hm', rfl⟩ := List.mem_map.mp he
          exact ⟨m', rfl, keys m' hm'⟩
        · refine wp_if_neg (by decide) ?_
          try refine wpAny_bind (wpAny_pure ?_)
          exact rest
    · have pr' : t.probe (fun i => (es[i]?.map (·.1)).getD 0) (hk w x) (st.getD (t.probeStart (hk w x))) = some (.empty (way t.mask (hk w x) K) none) := by
        rw [hst, show way t.mask (hk w x) K = (nth t.mask (stepOf t (hk w x) c) (K - c)).j by rw [step_add, step_j, Nat.add_sub_cancel' hc]]
        exact pr
      rw [pr']
      dsimp only
      refine wpAny_pure (no fun there => ?_)
      obtain ⟨m, hm, e⟩ := List.mem_map.mp there
      obtain ⟨i, li, ei⟩ := List.getElem_of_mem hm
      have hi : M[i]? = some m := by rw [List.getElem?_eq_getElem li, ei]
      obtain ⟨c', b1, b2, b3⟩ := left i m hi e
      exact passed (K - c) nq i m hi e c' b1 (by omega) b3
/-- looking for x, to add it -/
theorem look {o : Obj} (T : Tab w C M es t) (ho : s.heap.get? a = some o) (hd : o.data = .set es ep t) (keys : ∀ m ∈ M, KeyAt s.heap m) {x : Mem} (hx : KeyAt s.heap x) (hu : A.units + 8 < cLine) {Q : SetFound → Shared → Prop}
    (yes : x.2 ∈ M.map (·.2) → Q (.there none) s)
    (no : ∀ K, x.2 ∉ M.map (·.2) → way t.mask (hk w x) K ∉ t.place.toList → (∀ c, c < K → way t.mask (hk w x) c ∈ t.place.toList) → Q (.free (way t.mask (hk w x) K) false) s) :
    wpAny (model P w) A (setSearch a (.ref x.1) (hk w x) true) Q E s := by
  have air := T.air
  obtain ⟨K, k1, k2, k3⟩ := T.ok.hole (by rw [List.length_map]; omega) (hk w x)
  have big : K < 100000 := by
    have z : 10 * SetTable.turns t.mask ≤ 1420 := by
      unfold SetTable.turns
      have := T.ok.mask.top
      omega
    omega
  unfold setSearch
  refine look_from T ho hd keys hx hu k1 k2 k3 yes (fun n => no K n k2 k3) 100000 0 none rfl (Nat.zero_le _) (by omega) fun i m hi hm => ?_
  have h1 : (M.map (hk w))[i]? = some (hk w x) := by
    rw [List.getElem?_map, hi]
    exact congrArg some (congrArg (NestedKey.hash w) hm)
  have li : i < t.place.toList.length := by
    have z1 := (List.getElem?_eq_some_iff.mp hi).1
    have z2 := T.ok.many
    rw [List.length_map] at z2
    rw [Array.length_toList]
    omega
  obtain ⟨c, hc, e⟩ := T.ok.ahead k2 h1 (List.getElem?_eq_getElem li)
  exact ⟨c, Nat.zero_le _, hc, by rw [List.getElem?_eq_getElem li, e]⟩
end
end Kn


/-! Kn: adding a key to a set. -/
namespace Kn
open PySem PySem.Spec PyProof.Rows L2
structure KSetN (w : World) (C : Nat) (h : Heap) (a : Addr) (M : List Mem) : Prop where
  ex : ∃ o es ep t, h.get? a = some o ∧ o.ExactSet ∧ o.data = .set es ep t ∧ Tab w C M es t
section
variable {P : Program} {w : World} {A : Around} {E : Value → Shared → Prop} {s : Shared} {a : Addr} {M : List Mem} {C : Nat}
theorem KSetN.move {h h' : Heap} (R : KSetN w C h a M) (k : ∀ o, h.get? a = some o → h'.get? a = some o) : KSetN w C h' a M := by
  obtain ⟨o, es, ep, t, ho, z⟩ := R.ex
  exact ⟨o, es, ep, t, k o ho, z⟩
theorem KeyAt.move {h h' : Heap} {m : Mem} (x : KeyAt h m) (k : ∀ b o, h.get? b = some o → h'.get? b = some o) : KeyAt h' m := ⟨NestedIs.at (fun b o _ _ e _ => k b o e) _ _ x.1, x.2⟩
/-- the set itself is no key -/
theorem KeyAt.same {h h' : Heap} {m : Mem} {o : Obj} {es : Array (Int × Value)} {ep : Nat} {t : SetTable} (x : KeyAt h m) (ho : h.get? a = some o) (hd : o.data = .set es ep t) (sb : Heap.SameBut a h h') : KeyAt h' m := by
  refine ⟨NestedIs.at (fun b ob vs n e d => ?_) _ _ x.1, x.2⟩
  by_cases z : b = a
  · subst z
    rw [ho] at e
    cases e
    rw [hd] at d
    cases d
  · exact (sb.2 b z).trans e
theorem picked {L : List Mem} : ∀ {idx : List Nat}, (∀ i ∈ idx, i < L.length) → ∀ {es : Array (Int × Value)}, es.toList = L.map (cell w) →
    idx.filterMap (fun i => es[i]?) = (idx.filterMap fun i => L[i]?).map (cell w) ∧ ((idx.filterMap fun i => L[i]?).map (hk w)) = idx.map fun i => (es.map (·.1)).getD i 0
  | [], _, _, _ => ⟨rfl, rfl⟩
  | i :: r, h, es, e => by
    obtain ⟨h1, h2⟩ := picked (fun j hj => h j (List.mem_cons_of_mem _ hj)) e
    have hi := h i (List.mem_cons_self ..)
    have a1 : es[i]? = some (cell w L[i]) := by
      rw [← Array.getElem?_toList, e, List.getElem?_map, List.getElem?_eq_getElem hi]
      rfl
    have a2 : (es.map (·.1)).getD i 0 = hk w L[i] := by
      rw [Array.getD_eq_getD_getElem?, Array.getElem?_map, a1]
      rfl
    refine ⟨?_, ?_⟩
    · rw [List.filterMap_cons_some a1, List.filterMap_cons_some (List.getElem?_eq_getElem hi), h1, List.map_cons]
    · rw [List.filterMap_cons_some (List.getElem?_eq_getElem hi), List.map_cons, List.map_cons, h2, a2]
theorem all_range (L : List Mem) : (List.range L.length).filterMap (fun i => L[i]?) = L := by
  have go : ∀ n, n ≤ L.length → (List.range n).filterMap (fun i => L[i]?) = L.take n := by
    intro n
    induction n with
    | zero => exact fun _ => rfl
    | succ n ih =>
      intro hn
      rw [List.range_succ, List.filterMap_append, ih (Nat.le_of_succ_le hn), List.take_add_one, List.getElem?_eq_getElem (show n < L.length from hn)]
      simp [List.getElem?_eq_getElem (show n < L.length from hn)]
  rw [go _ (Nat.le_refl _), List.take_length]
/-- the table is laid anew, larger -/
theorem set_relay {o : Obj} {es : Array (Int × Value)} {ep : Nat} {t : SetTable} (ho : s.heap.get? a = some o) (hx : o.ExactSet) (hd : o.data = .set es ep t) (rows : es.toList = M.map (cell w)) (ok : TabX t (M.map (hk w))) (fit : M.length ≤ t.mask)
    (led : w.params.followText "set-order" = true ∨ t.led = true) (nd : (M.map (·.2)).Nodup) (few : M.length < 64) {want N : Nat} (hw : SetTable.sizeAbove want - 1 = N) (hN : MaskOk N) (h128 : SetTable.sizeAbove want ≤ 128) (air : M.length * 5 < N * 3)
    {Q : Unit → Shared → Prop} (q : ∀ h' M', Heap.SameBut a s.heap h' → KSetN w C h' a M' → M'.Perm M → Q () { s with heap := h' }) : wpAny (model P w) A (setRelay a want) Q E s := by
  have sz : es.size = M.length := by rw [← Array.length_toList, rows, List.length_map]
  have fits : t.fits es.size = true := by
    have z := ok.many
    rw [List.length_map] at z
    unfold SetTable.fits SetTable.fill
    rw [ok.bare, Bool.and_eq_true]
    exact ⟨beq_iff_eq.mpr (by omega), decide_eq_true (by show t.place.size + 0 ≤ t.mask; omega)⟩
  obtain ⟨t', ord, e, perm, T, em, el, _, _⟩ := relaid_ok t (hs := es.map (·.1)) hw hN (by rw [Array.size_map]; omega)
  rw [Array.size_map, sz] at perm
  obtain ⟨r1, r2⟩ := picked (w := w) (L := M) (idx := ord.toList) (fun i hi => List.mem_range.mp (perm.mem_iff.mp hi)) rows
  have p2 : (ord.toList.filterMap fun i => M[i]?).Perm M := by
    have z := perm.filterMap fun i => M[i]?
    rwa [all_range] at z
  rw [← r2] at T
  generalize (ord.toList.filterMap fun i => M[i]?) = M' at r1 r2 p2 T
  have l2 : (ord.filterMap (es[·]?)).toList = M'.map (cell w) := by
    rw [Array.toList_filterMap]
    exact r1
  have s2 : (ord.filterMap (es[·]?)).size = es.size := by
    rw [← Array.length_toList, l2, List.length_map, p2.length_eq, sz]
  rw [setRelay_eq]
  refine wpAny_bind (wpAny_setState_of ho hd fits ?_)
  dsimp only
  refine wp_if_neg (by rw [sizeLine_eq]; omega) ?_
  try refine wpAny_bind (wpAny_pure ?_)
  rw [e]
  dsimp only
  refine wpAny_bind (wp_if_neg (by rw [s2]; simp) ?_)
  try refine wpAny_bind (wpAny_pure ?_)
  refine wpAny_pure ?_
  dsimp only
  refine wpAny_storeSet_of ho hd ?_ (by rw [s2, sizeLine_eq]; omega)
  refine q _ M' (Heap.SameBut.update ..) ⟨_, _, _, t', store_at ho hd, ⟨hx.1, hx.2.1, hx.2.2⟩, rfl, l2, TabX.of T, by rw [el]; exact led, by rw [p2.length_eq, em]; exact air, (p2.map (·.2)).nodup_iff.mpr nd, by rw [p2.length_eq]; exact few, fun e => by rw [em] at e; rcases hN with z | z | z <;> omega⟩ p2
theorem TabX.plain {t : SetTable} {hs : List Int} (T : TabX t hs) (b : Bool) : TabX { t with plain := b } hs := ⟨T.asc, T.bare, T.many, T.mask, T.low, T.met⟩
/-- the end of adding: the table is stored, and laid anew where it got too full -/
theorem set_put {o : Obj} {es es1 : Array (Int × Value)} {ep : Nat} {t0 t : SetTable} {M1 : List Mem} (ho : s.heap.get? a = some o) (hx : o.ExactSet) (hd : o.data = .set es ep t0) (rows : es1.toList = M1.map (cell w)) (ok : TabX t (M1.map (hk w)))
    (led : w.params.followText "set-order" = true ∨ t.led = true) (nd : (M1.map (·.2)).Nodup) (few : M1.length < 64) (old : (M1.length - 1) * 5 < t.mask * 3) (pos : 0 < M1.length) (fill : t.fill = M1.length) (cap : t.mask = 15 → C ≤ 8) (lc : M1.length ≤ C) {n : Nat} (hn : n + 1 = M1.length)
    {Q : Bool → Shared → Prop} (q : ∀ h' M', Heap.SameBut a s.heap h' → KSetN w C h' a M' → M'.Perm M1 → Q true { s with heap := h' }) :
    wpAny (model P w) A (do
      storeSet a es1 t
      if (!false && t.tooFull) = true then setRelay a (SetTable.grown (n + 1))
      pure true) Q E s := by
  have sz : es1.size = M1.length := by rw [← Array.length_toList, rows, List.length_map]
  refine wpAny_bind (wpAny_storeSet_of ho hd ?_ (by rw [sz, sizeLine_eq]; omega))
  have sb : Heap.SameBut a s.heap (s.heap.update a (Obj.putSet es1 t)) := Heap.SameBut.update ..
  have o1 := store_at (es' := es1) (t' := t) ho hd
  generalize s.heap.update a (Obj.putSet es1 t) = h1 at sb o1 ⊢
  by_cases full : t.tooFull = true
  · have big : M1.length * 5 ≥ t.mask * 3 := by
      have z := full
      unfold SetTable.tooFull at z
      rw [decide_eq_true_eq, fill] at z
      exact z
    have two : (t.mask = 7 ∧ n = 4) ∨ (t.mask = 31 ∧ n = 18) := by
      rcases ok.mask with (e | e | e) | e
      · exact .inl ⟨e, by omega⟩
      · exact .inr ⟨e, by omega⟩
      · omega
      · have := cap e
        omega
    have go : ∀ N, SetTable.sizeAbove (SetTable.grown (n + 1)) - 1 = N → MaskOk N → SetTable.sizeAbove (SetTable.grown (n + 1)) ≤ 128 → M1.length * 5 < N * 3 →
        wpAny (model P w) A (setRelay a (SetTable.grown (n + 1))) (fun _ s' => wpAny (model P w) A (pure true) Q E s') E { s with heap := h1 } := fun N e1 e2 e3 e4 =>
      set_relay (s := { s with heap := h1 }) o1 ⟨hx.1, hx.2.1, hx.2.2⟩ rfl rows ok (by rcases two with ⟨z, y⟩ | ⟨z, y⟩ <;> omega) led nd few e1 e2 e3 e4 fun h2 M2 sb2 R2 pm => wpAny_pure (q h2 M2 (sb.trans sb2) R2 pm)
    simp only [full, Bool.not_false, Bool.and_self, if_true]
    refine wpAny_bind ?_
    rcases two with ⟨_, y⟩ | ⟨_, y⟩
    · exact go 31 (by rw [y, size_20]) (.inr (.inl rfl)) (by rw [y, size_20]; decide) (by omega)
    · exact go 127 (by rw [y, size_76]) (.inr (.inr rfl)) (by rw [y, size_76]; decide) (by omega)
  · have room : M1.length * 5 < t.mask * 3 := by
      have z := full
      unfold SetTable.tooFull at z
      rw [decide_eq_true_eq, fill] at z
      omega
    simp only [full, Bool.and_false, Bool.false_eq_true, if_false]
    try refine wpAny_bind (wpAny_pure ?_)
    exact wpAny_pure (q h1 M1 sb ⟨_, _, _, t, o1, ⟨hx.1, hx.2.1, hx.2.2⟩, rfl, rows, ok, led, room, nd, few, cap⟩ (List.Perm.refl _))
/-- adding -/
theorem set_add (R : KSetN w C s.heap a M) (keys : ∀ m ∈ M, KeyAt s.heap m) {x : Mem} (hx : KeyAt s.heap x) (hu : A.units + 8 < cLine) (few : M.length + 1 < 64) (lc : M.length + 1 ≤ C) {Q : Bool → Shared → Prop}
    (q : ∀ b h' M', Heap.SameBut a s.heap h' → KSetN w C h' a M' → (x.2 ∈ M.map (·.2) → M' = M) → (x.2 ∉ M.map (·.2) → M'.Perm (x :: M)) → (∀ m ∈ M', KeyAt h' m) → Q b { s with heap := h' }) :
    wpAny (model P w) A (setAddHashed a (.ref x.1) (hk w x)) Q E s := by
  obtain ⟨o, es, ep, t, ho, hex, hd, T⟩ := R.ex
  have air := T.air
  unfold setAddHashed
  refine wpAny_holding ?_
  rw [show (100000 : Nat) = 99999 + 1 from rfl, setAddHashedIn_succ]
  refine wpAny_bind (wpAny_setState_of ho hd T.fits ?_)
  dsimp only
  refine wp_if_neg (by simp [byScan, Value.scannable]) ?_
  try refine wpAny_bind (wpAny_pure ?_)
  refine wpAny_bind (look T ho hd keys hx hu (fun there => ?_) fun K new free full => ?_)
  · dsimp only
    exact wpAny_pure (q false s.heap M (Heap.SameBut.refl a s.heap) R (fun _ => rfl) (fun z => absurd there z) keys)
  · dsimp only
    refine wpAny_bind (wpAny_setState_of ho hd T.fits ?_)
    dsimp only
    obtain ⟨b, hb⟩ := key_byv (P := P) (w := w) _ _ 8 s hx.1 hx.2
    obtain ⟨q2, q3, q9⟩ := T.ok.grow (j := way t.mask (hk w x) K) rfl free full
    have q1 : (t.put (way t.mask (hk w x) K)).2 = SetTable.below t.place (way t.mask (hk w x) K) := rfl
    have q4 : (t.put (way t.mask (hk w x) K)).1.mask = t.mask := rfl
    have q5 : (t.put (way t.mask (hk w x) K)).1.led = t.led := rfl
    generalize t.put (way t.mask (hk w x) K) = pt at q1 q3 q4 q5 q9 ⊢
    obtain ⟨t1, p⟩ := pt
    dsimp only at q1 q3 q4 q5 q9 ⊢
    subst q1
    have rows : (SetTable.insertAt es (SetTable.below t.place (way t.mask (hk w x) K)) (hk w x, Value.ref x.1)).toList = (M.take (SetTable.below t.place (way t.mask (hk w x) K)) ++ x :: M.drop (SetTable.below t.place (way t.mask (hk w x) K))).map (cell w) := by
      rw [SetTable.toList_insertAt, T.rows, List.map_append, List.map_cons, List.map_take, List.map_drop]
    have hs : (M.map (hk w)).take (SetTable.below t.place (way t.mask (hk w x) K)) ++ hk w x :: (M.map (hk w)).drop (SetTable.below t.place (way t.mask (hk w x) K)) = (M.take (SetTable.below t.place (way t.mask (hk w x) K)) ++ x :: M.drop (SetTable.below t.place (way t.mask (hk w x) K))).map (hk w) := by
      rw [List.map_append, List.map_cons, List.map_take, List.map_drop]
    rw [hs] at q3
    have pm := put_perm M (SetTable.below t.place (way t.mask (hk w x) K)) x
    generalize SetTable.below t.place (way t.mask (hk w x) K) = p at q2 q3 rows pm ⊢
    generalize M.take p ++ x :: M.drop p = M1 at q3 rows pm
    have len : M1.length = M.length + 1 := pm.length_eq
    have nd1 : (M1.map (·.2)).Nodup := by
      refine (pm.map (·.2)).nodup_iff.mpr ?_
      rw [List.map_cons]
      exact List.nodup_cons.mpr ⟨new, T.nd⟩
    generalize SetTable.insertAt es p (hk w x, Value.ref x.1) = es1 at rows ⊢
    rw [List.length_map] at q9
    have fin : ∀ (c : Bool), wpAny (model P w) A (do
        storeSet a es1 { t1 with plain := c }
        if (!false && ({ t1 with plain := c } : SetTable).tooFull) = true then setRelay a (SetTable.grown (M.length + 1))
        pure true) Q E s := fun c =>
      set_put (M1 := M1) ho hex hd rows (TabX.plain q3 c) (by show _ ∨ t1.led = true; rw [q5]; exact T.led) nd1 (by omega) (by show (M1.length - 1) * 5 < t1.mask * 3; rw [q4]; omega) (by omega) (by show t1.fill = _; omega) (by show t1.mask = 15 → _; rw [q4]; exact T.cap) (by omega) (by omega)
        fun h' M' sb R' pm' => q true h' M' sb R' (fun z => absurd z new) (fun _ => pm'.trans pm) fun m hm => by
          rcases List.mem_cons.mp (pm.mem_iff.mp (pm'.mem_iff.mp hm)) with e | hm
          · rw [e]
            exact hx.same ho hd sb
          · exact (keys m hm).same ho hd sb
    have same : ∀ c : Bool, t1.plain = c → ({ t1 with plain := c } : SetTable) = t1 := fun c e => by subst e; rfl
    have sz := T.size
    rw [sz]
    cases pl : t1.plain
    · have f := fin false
      rw [same false pl] at f
      simp only [Bool.false_eq_true, if_false]
      first
        | exact wpAny_bind (wpAny_pure f)
        | exact f
    · simp only [if_true]
      refine wpAny_bind (hb _ _ _ ?_)
      cases b
      · simp only [Bool.false_eq_true, if_false]
        exact fin false
      · have f := fin true
        rw [same true pl] at f
        simp only [if_true]
        exact f
structure KSet (w : World) (h : Heap) (a : Addr) (M : List Mem) : Prop where
  ex : ∃ C, KSetN w C h a M
theorem KSet.move {h h' : Heap} (R : KSet w h a M) (k : ∀ o, h.get? a = some o → h'.get? a = some o) : KSet w h' a M := by
  obtain ⟨C, z⟩ := R.ex
  exact ⟨C, z.move k⟩
end
end Kn


namespace Kn
open PySem PySem.Spec PyProof.Rows L2
/-! ### a set of texts -/
/-- the text of an entry -/
def txt (e : Int × Value) : Str := match e.2 with
  | .str x _ => x
  | _ => Str.empty
def TxtE (w : World) (e : Int × Value) : Prop := ∃ (x : Str) (u : Tok), e.2 = .str x u ∧ e.1 = hashStr w x
/-- at a stands a set with the members L, no two alike -/
structure TxtSet (w : World) (h : Heap) (a : Addr) (L : List Str) : Prop where
  ex : ∃ (o : Obj) (es : Array (Int × Value)) (ep : Nat) (t : SetTable), h.get? a = some o ∧ o.ExactSet ∧ o.data = .set es ep t ∧ (∀ e ∈ es.toList, TxtE w e) ∧
    (es.toList.map txt).Perm L ∧ t.fits es.size = true ∧ Ris t.place.toList ∧ (w.params.followText "set-order" = true ∨ t.led = true)
  nd : L.Nodup
  few : L.length < scanBound
def addT (x : Str) (L : List Str) : List Str := if x ∈ L then L else x :: L
theorem mem_addT {x y : Str} {L : List Str} : y ∈ addT x L ↔ y = x ∨ y ∈ L := by
  unfold addT
  split
  · rename_i m
    exact ⟨.inr, fun z => z.elim (fun q => q ▸ m) id⟩
  · exact List.mem_cons
theorem len_addT (x : Str) (L : List Str) : (addT x L).length ≤ L.length + 1 := by
  unfold addT
  split
  · omega
  · exact Nat.le_refl _
theorem nodup_addT {x : Str} {L : List Str} (h : L.Nodup) : (addT x L).Nodup := by
  unfold addT
  split
  · exact h
  · rename_i m
    exact List.nodup_cons.mpr ⟨m, h⟩
section
variable {P : Program} {w : World} {A : Around} {E : Value → Shared → Prop} {s : Shared} {a : Addr} {L : List Str}
theorem TxtSet.move {h h' : Heap} (R : TxtSet w h a L) (k : ∀ o, h.get? a = some o → h'.get? a = some o) : TxtSet w h' a L := by
  obtain ⟨⟨o, es, ep, t, ho, z⟩, n, f⟩ := R
  exact ⟨⟨o, es, ep, t, k o ho, z⟩, n, f⟩
theorem txt_elems {l : List (Int × Value)} (g : ∀ e ∈ l, TxtE w e) : ElemsOf (PySem.strKind P w) l := by
  intro e m
  obtain ⟨x, u, e1, e2⟩ := g e m
  rw [e1]
  exact ⟨⟨x, strKind_is P w x u, e2⟩, rfl⟩
theorem txt_is {e : Int × Value} (g : TxtE w e) (x : Str) : (PySem.strKind P w).is x e.2 = true ↔ txt e = x := by
  obtain ⟨y, u, e1, _⟩ := g
  unfold txt
  rw [e1]
  constructor
  · intro z
    obtain ⟨u', e'⟩ := Value.isStrOf_shape (x := x) (v := .str y u) z
    cases e'
    rfl
  · rintro rfl
    exact strKind_is P w _ u
theorem len_es {es : Array (Int × Value)} (p : (es.toList.map txt).Perm L) : es.size = L.length := by
  have q := p.length_eq
  rw [List.length_map, Array.length_toList] at q
  exact q
/-- the end of an addition: the table is stored, and laid out anew where it got too full -/
theorem txt_store {gv : Bool → Sem Unit} (free : ∀ (b : Bool) (s1 : Shared) (W : Unit → Shared → Prop), W () s1 → wpAny (model P w) A (gv b) W E s1)
    {o : Obj} {es es1 : Array (Int × Value)} {ep : Nat} {t t2 : SetTable} {L1 : List Str} (ho : s.heap.get? a = some o) (hx : o.ExactSet) (hd : o.data = .set es ep t)
    (g1 : ∀ e ∈ es1.toList, TxtE w e) (p1 : (es1.toList.map txt).Perm L1) (nd : L1.Nodup) (few : L1.length < scanBound) (f2 : t2.fits es1.size = true) (r2 : Ris t2.place.toList)
    (l2 : w.params.followText "set-order" = true ∨ t2.led = true) {dm : Bool} {R : Option Bool → Shared → Prop} (out : ∀ h', Heap.SameBut a s.heap h' → TxtSet w h' a L1 → R (some true) { s with heap := h' }) :
    wpAny (model P w) A (do
      storeSet a es1 t2
      if (!dm && t2.tooFull) = true then do
        gv (relayAll t2 es1 (SetTable.grown es1.size)).2.2
        storeSet a (relayAll t2 es1 (SetTable.grown es1.size)).1 (relayAll t2 es1 (SetTable.grown es1.size)).2.1
        pure (some true)
      else pure (some true)) R E s := by
  have b1 : es1.size < scanBound := by rw [len_es p1]; exact few
  refine wpAny_bind (wpAny_storeSet_of ho hd ?_ (fits_of_scanBound b1))
  have o1 := store_at (es' := es1) (t' := t2) ho hd
  have same1 := Heap.SameBut.update s.heap a (Obj.putSet es1 t2)
  split
  · have q1 := relayAll_perm t2 es1 (SetTable.grown es1.size)
    have q2 := relayAll_fits t2 es1 (SetTable.grown es1.size)
    have q3 := relayAll_ris t2 es1 (SetTable.grown es1.size)
    have q4 := relayAll_led t2 es1 (SetTable.grown es1.size)
    revert q1 q2 q3 q4
    generalize relayAll t2 es1 (SetTable.grown es1.size) = Y
    rcases Y with ⟨es2, t3, gave⟩
    intro q1 q2 q3 q4
    dsimp only at q1 q2 q3 q4 ⊢
    have p2 : (es2.toList.map txt).Perm L1 := (q1.map txt).trans p1
    have b2 : es2.size < scanBound := by rw [len_es p2]; exact few
    refine wpAny_bind (free _ _ _ (wpAny_bind (wpAny_storeSet_of o1 rfl ?_ (fits_of_scanBound b2))))
    refine wpAny_pure (out _ (same1.trans (Heap.SameBut.update _ a _)) ⟨⟨_, es2, _, t3, store_at (es' := es2) (t' := t3) o1 rfl, hx, rfl, fun e m => g1 e (q1.mem_iff.mp m), p2, q2, q3, ?_⟩, nd, few⟩)
    exact l2.imp id fun z => by rw [q4]; exact z
  · exact wpAny_pure (out _ same1 ⟨⟨_, es1, _, t2, o1, hx, rfl, g1, p1, f2, r2, l2⟩, nd, few⟩)
theorem txt_add {x : Str} {u : Tok} {Q : Bool → Shared → Prop} (R : TxtSet w s.heap a L) (room : L.length + 1 < scanBound)
    (hQ : ∀ h' b, Heap.SameBut a s.heap h' → TxtSet w h' a (addT x L) → Q b { s with heap := h' }) : wpAny (model P w) A (setAddHashed a (.str x u) (hashStr w x)) Q E s := by
  obtain ⟨⟨o, es, ep, t, ho, hx, hd, g, p, f, r, l⟩, nd, few⟩ := R
  have el : ElemsOf (PySem.strKind P w) es.toList := txt_elems g
  have b0 : es.size < scanBound := by rw [len_es p]; exact few
  show wpAny (model P w) A (setAddHashed a (.str x u) ((PySem.strKind P w).hash x)) Q E s
  unfold setAddHashed setAddHashedIn
  refine wpAny_holding (wpAny_bind (wpAny_setState_of ho hd f ?_))
  dsimp only
  rw [byScan_of (show (Value.str x u).scannable = true from rfl) b0 el]
  simp only [↓reduceIte]
  unfold setAddByScan
  refine wpAny_bind (wpAny_bind (wpAny_rule (wpAny_bind (wpAny_setScan_of (strKind_is P w x u) ho hd f el ?_))))
  cases fi : List.findIdx? (fun e => (PySem.strKind P w).is x e.2) es.toList with
  | some j =>
    dsimp only
    obtain ⟨lt, at_, _⟩ := List.findIdx?_eq_some_iff_getElem.mp fi
    have m : x ∈ L := p.mem_iff.mp (List.mem_map.mpr ⟨_, List.getElem_mem lt, (txt_is (g _ (List.getElem_mem lt)) x).mp at_⟩)
    have same : addT x L = L := if_pos m
    refine wpAny_pure (wpAny_pure (hQ s.heap _ (Heap.SameBut.refl a s.heap) ?_))
    rw [same]
    exact ⟨⟨o, es, ep, t, ho, hx, hd, g, p, f, r, l⟩, nd, few⟩
  | none =>
    dsimp only
    have nm : x ∉ L := fun z => by
      obtain ⟨e, m, q⟩ := List.mem_map.mp (p.mem_iff.mpr z)
      exact absurd ((txt_is (P := P) (g e m) x).mpr q) (by rw [List.findIdx?_eq_none_iff.mp fi e m]; decide)
    have more : addT x L = x :: L := if_neg nm
    have gw : ∀ (b : Bool) {s1 : Shared} {W : Unit → Shared → Prop}, W () s1 → wpAny (model P w) A (match b with | true => rule "set.scan.the-table-gave-way" | false => pure ()) W E s1 := by
      intro b s1 W q
      cases b
      · exact wpAny_pure q
      · exact wpAny_rule q
    have q1 := layNew_perm t es ((PySem.strKind P w).hash x) (.str x u)
    have q2 := layNew_fits t es ((PySem.strKind P w).hash x) (.str x u)
    have q3 := layNew_ris t es ((PySem.strKind P w).hash x) (.str x u) r
    have q4 := layNew_led t es ((PySem.strKind P w).hash x) (.str x u)
    revert q1 q2 q3 q4
    generalize layNew t es ((PySem.strKind P w).hash x) (.str x u) = Y
    rcases Y with ⟨es1, t1, dm, gave⟩
    intro q1 q2 q3 q4
    dsimp only at q1 q2 q3 q4 ⊢
    rw [Array.toList_push] at q1
    have c : es1.toList.Perm (((PySem.strKind P w).hash x, Value.str x u) :: es.toList) := q1.trans (List.perm_append_singleton _ _)
    have g1 : ∀ e ∈ es1.toList, TxtE w e := by
      intro e m
      rcases List.mem_cons.mp (c.mem_iff.mp m) with rfl | m
      · exact ⟨x, u, rfl, rfl⟩
      · exact g e m
    have p1 : (es1.toList.map txt).Perm (addT x L) := by
      rw [more]
      exact (c.map txt).trans (p.cons x)
    have few1 : (addT x L).length < scanBound := Nat.lt_of_le_of_lt (len_addT x L) room
    have l1 : w.params.followText "set-order" = true ∨ t1.led = true := l.imp id fun z => by rw [q4]; exact z
    have fin : ∀ h', Heap.SameBut a s.heap h' → TxtSet w h' a (addT x L) → wpAny (model P w) A (pure true) Q E { s with heap := h' } := fun h' k r => wpAny_pure (hQ h' _ k r)
    refine wpAny_bind (gw _ ?_)
    split
    · refine wpAny_bind ?_
      rw [hashByValue_scannable 8 (show (Value.str x u).scannable = true from rfl)]
      refine wpAny_pure (txt_store (fun b s1 W q => gw b q) ho hx hd g1 p1 (nodup_addT nd) few1 ?_ ?_ ?_ fun h' k r => ?_)
      · first | exact q2 | (split <;> first | exact q2 | exact SetTable.fits_plain_off q2)
      · first | exact q3 | (split <;> exact q3)
      · first | exact l1 | (split <;> exact l1)
      · exact fin h' k r
    · refine wpAny_bind (wpAny_pure ?_)
      simp only [↓reduceIte]
      refine txt_store (fun b s1 W q => gw b q) ho hx hd g1 p1 (nodup_addT nd) few1 q2 q3 l1 fun h' k r => ?_
      exact fin h' k r
end
end Kn


namespace Kn
open PySem PySem.Spec PyProof.Rows L2
/-- what stands in a set behind these texts, one after another -/
def gathered (xs : List Str) : List Str := xs.foldl (fun L x => addT x L) []
theorem gathered_snoc (xs : List Str) (x : Str) : gathered (xs ++ [x]) = addT x (gathered xs) := by
  unfold gathered
  rw [List.foldl_append]
  rfl
theorem gathered_ind {R : List Str → List Str → Prop} (h0 : R [] []) (h1 : ∀ xs L x, R xs L → R (xs ++ [x]) (addT x L)) (xs : List Str) : R xs (gathered xs) := by
  have all : ∀ n (xs : List Str), xs.length = n → R xs (gathered xs) := by
    intro n
    induction n with
    | zero => intro xs h; rw [List.eq_nil_of_length_eq_zero h]; exact h0
    | succ n ih =>
      intro xs h
      have ne : xs ≠ [] := by rintro rfl; cases h
      rw [← List.dropLast_concat_getLast ne, gathered_snoc]
      exact h1 _ _ _ (ih _ (by rw [List.length_dropLast, h]; rfl))
  exact all _ xs rfl
theorem mem_gathered {xs : List Str} {y : Str} : y ∈ gathered xs ↔ y ∈ xs :=
  gathered_ind (R := fun xs L => y ∈ L ↔ y ∈ xs) Iff.rfl (fun xs L x h => by rw [mem_addT, h, List.mem_append, List.mem_singleton]; exact Or.comm) xs
theorem nodup_gathered (xs : List Str) : (gathered xs).Nodup := gathered_ind (R := fun _ L => L.Nodup) List.nodup_nil (fun _ _ _ h => nodup_addT h) xs
theorem len_gathered (xs : List Str) : (gathered xs).length ≤ xs.length :=
  gathered_ind (R := fun xs L => L.length ≤ xs.length) (Nat.le_refl _) (fun xs L x h => by have := len_addT x L; rw [List.length_append]; show _ ≤ xs.length + 1; omega) xs
theorem txt_fresh {w : World} {h : Heap} {a : Addr} (ho : h.get? a = some { cls := .type "set", dict := none, data := .set #[] 0 (.fresh 0 0 (!w.params.followText "set-order")) }) : TxtSet w h a [] := by
  refine ⟨⟨_, #[], 0, _, ho, ⟨rfl, rfl, rfl⟩, rfl, fun e m => ?_, List.Perm.refl _, rfl, List.Pairwise.nil, ?_⟩, List.nodup_nil, by decide⟩
  · cases m
  · cases hq : w.params.followText "set-order" with
    | true => exact .inl rfl
    | false => exact .inr rfl
section
variable {P : Program} {w : World} {A : Around} {E : Value → Shared → Prop} {s : Shared}
/-- set.update's loop over anything that yields texts -/
theorem txt_loop {I : Addr} {fp wr : List Addr} {G : Array GenState → Array GenState → Prop} {n : Nat} {Pv : Nat → Value → Prop} {St : Nat → Shared → Prop} {R : Result → Shared → Prop} (W : WalksS P w A.in1 I fp wr G n Pv St) (a : Addr) (out : a ∉ fp)
    (xs : List Str) (hn : xs.length = n) (room : n + 1 < scanBound) (val : ∀ i v, Pv i v → ∃ x u, xs[i]? = some x ∧ v = .str x u) :
    ∀ (k i : Nat) (s : Shared), n - i = k → i ≤ n → St i s → TxtSet w s.heap a (gathered (xs.take i)) → (∀ s', Moved (a :: wr) G s s' → TxtSet w s'.heap a (gathered xs) → R (.ok (.ret .none)) s') →
      codeAny (model P w) A (.builtin "set.update.loop" ⟨[.ref a, .ref I], []⟩) R s := by
  have ow : a ∉ wr := fun z => out (W.sub _ z)
  have wider : ∀ b ∈ wr, b ∈ a :: wr := fun b m => List.mem_cons_of_mem _ m
  intro k
  induction k with
  | zero =>
    intro i s hk hi st T fin
    obtain rfl : i = n := by omega
    refine codeAny_builtin PyProof.Rows.F.entry_set_update_loop ?_
    rw [Around.under_plainId PyProof.Rows.F.plain_set_update_loop _]
    show wpAny (model P w) A.in1 (pyNext (.ref I) >>= _) _ _ s
    refine wpAny_bind (W.done s _ _ st fun s' mv => ?_)
    show wpAny (model P w) A.in1 (ret Value.none) _ _ s'
    rw [List.take_of_length_le (by omega)] at T
    exact wpAny_pure (fin s' (mv.mono wider) (T.move fun o e => mv.heap a o ow e))
  | succ k ih =>
    intro i s hk hi st T fin
    have lt : i < n := by omega
    refine codeAny_builtin PyProof.Rows.F.entry_set_update_loop ?_
    rw [Around.under_plainId PyProof.Rows.F.plain_set_update_loop _]
    show wpAny (model P w) A.in1 (pyNext (.ref I) >>= _) _ _ s
    refine wpAny_bind (W.item i s _ _ lt st fun v s' hv st' mv => ?_)
    obtain ⟨x, u, hx, rfl⟩ := val i v hv
    have T' := T.move fun o e => mv.heap a o ow e
    show wpAny (model P w) A.in1 (holding [Value.str x u] (setAdd a (.str x u)) >>= _) _ _ s'
    refine wpAny_bind (wpAny_holding ?_)
    unfold setAdd
    have lr := len_gathered (xs.take i)
    have lt2 : (xs.take i).length ≤ i := by rw [List.length_take]; omega
    refine wpAny_holding (wpAny_bind ((PySem.strKind P w).pyHash (k := x) (strKind_is _ _ _ _) (txt_add (s := { s' with toks := s'.toks + 1 }) T' (by omega) fun h' b same T2 => ?_)))
    rw [← gathered_snoc] at T2
    have tk : xs.take i ++ [x] = xs.take (i + 1) := by rw [List.take_add_one, hx]; rfl
    rw [tk] at T2
    have stay : ∀ b o, b ≠ a → s'.heap.get? b = some o → h'.get? b = some o := fun b o z e => (same.2 b z).trans e
    refine wpAny_pure ⟨plainId_quiet PyProof.Rows.F.plain_set_update_loop _, ih (i + 1) _ (by omega) lt (W.frame _ s' _ _ st' (Nat.le_succ _) fun b m o e => stay b o (fun z => out (z ▸ m)) e) T2 fun s'' mv2 T3 => ?_⟩
    exact fin s'' (Moved.trans W.gtrans ((mv.mono wider).then_heap (Nat.le_succ _) fun b o m e => stay b o (fun z => m (z ▸ List.mem_cons_self ..)) e) mv2) T3
end
end Kn


namespace Kn
open PySem PySem.Spec PyProof.Rows L2
abbrev setObj0 (w : World) : Obj := { cls := .type "set", dict := none, data := .set #[] 0 (.fresh 0 0 (!w.params.followText "set-order")) }
section
variable {P : Program} {w : World} {A : Around} {E : Value → Shared → Prop} {s : Shared}
/-- set(xs) of a list of texts -/
theorem txt_set {l : Addr} {its : Array Value} (xs : List Str) {Q : Value → Shared → Prop} (hh : A.handled = none) (hl : s.heap.IsList l its) (vs : StrsAre its.toList xs) (room : xs.length + 1 < scanBound)
    (q : ∀ (h' : Heap) (tk : Nat), TxtSet w h' s.heap.objs.size (gathered xs) → (∀ b o, s.heap.get? b = some o → h'.get? b = some o) → Q (.ref s.heap.objs.size) { s with heap := h', toks := tk }) :
    wpAny (model P w) A (call (.type "set") [.ref l]) Q E s := by
  have sz : xs.length = its.size := by rw [← StrsAre.len_eq vs, Array.length_toList]
  obtain ⟨cl, tl, hmro⟩ := PySem.F.called_set.mro
  have k1 := PySem.F.called_set.made
  have k2 := PySem.F.called_set.sub
  have k3 := PySem.F.called_set.notType
  have k4 := PySem.F.called_set.canCreate
  have k5 := PySem.F.typeCall_set_1 (.ref l)
  refine wpAny_call (codeAny_of_tree ?_)
  show wpAny _ _ (callAny (.type "set") _) _ _ _
  refine wpAny_pure ⟨Code.quiet_builtin _ (by decide +kernel), codeAny_builtin PySem.F.entry_type_call ?_⟩
  rw [Around.under_plain (weight_type_call_type "set" [.ref l] []) rfl]
  repeat (any_goals (first | assumption | wp_step))
  refine codeAny_mono (code_set_led1 (.ref l) (E := E) (Q₁ := fun v s1 => v = .ref s.heap.objs.size ∧ s1 = { s with heap := s.heap.push (setObj0 w) }) ⟨rfl, rfl⟩) fun r s1 hr => ?_
  rcases r with e | fl
  · exact hr
  cases fl with
  | brk => exact hr.elim
  | cont => exact hr.elim
  | next => exact hr.elim
  | ret v =>
    obtain ⟨rfl, rfl⟩ := hr
    have at0 : (s.heap.push (setObj0 w)).get? s.heap.objs.size = some (setObj0 w) := Heap.get?_push_size _ rfl
    have ty0 : Shared.TypeIs { s with heap := s.heap.push (setObj0 w) } (.ref s.heap.objs.size) "set" := ⟨_, at0, rfl⟩
    have k6 := PySem.F.called_set.init.lookup
    have k7 := PySem.F.called_set.init.bind (.ref s.heap.objs.size)
    repeat (any_goals (first | assumption | wp_step))
    refine codeAny_mono (codeAny_call_builtin (R := wants (fun r s2 => r = .none ∧ ∃ h' tk, s2 = { s with heap := h', toks := tk } ∧ TxtSet w h' s.heap.objs.size (gathered xs) ∧ ∀ b o, s.heap.get? b = some o → h'.get? b = some o) E)
      PySem.F.called_set.init.plain PySem.F.entry_set_init (check_set_init_1 ty0 ?_)) fun r2 s2 hr2 => ?_
    · obtain ⟨⟨oc, od, oda, osl⟩, ho, hc, nl, hd⟩ := hl
      simp only at hc hd
      subst hc; subst hd
      have ho' : (s.heap.push (setObj0 w)).get? l = some { cls := .type "list", dict := od, data := .seq its nl, slots := osl } := Heap.get?_push_of_some _ ho
      have hl' : (s.heap.push (setObj0 w)).IsList l its := ⟨_, ho', rfl, nl, rfl⟩
      have j1 := PySem.F.sub_list_set
      have j2 := PySem.F.sub_list_frozenset
      have j3 : (Value.type "list" == Value.type "dict") = false := by decide
      unfold Builtin.«set.__init__» noKeywords Builtin.Frozenset.updateFrom
      generalize hPI : pyIter = PI
      wp_walk
      subst hPI
      have lS : l < s.heap.objs.size := Heap.lt_size ho
      have z1 : (s.heap.push (setObj0 w)).objs.size = s.heap.objs.size + 1 := Heap.size_push ..
      have nI : l ≠ (s.heap.push (setObj0 w)).objs.size := by rw [z1]; exact Nat.ne_of_lt (Nat.lt_succ_of_lt lS)
      have nS : s.heap.objs.size ∉ [(s.heap.push (setObj0 w)).objs.size, l] := by
        rw [z1]
        intro m
        simp only [List.mem_cons, List.not_mem_nil, or_false] at m
        rcases m with m | m
        · exact absurd m (Nat.ne_of_lt (Nat.lt_succ_self _))
        · exact absurd m.symm (Nat.ne_of_lt lS)
      have h3 : A.in1.in1.in1.handled = none := by simp [hh]
      refine wpAny_pyIter_list hl' (wpAny_bind (wpAny_runValue ?_))
      refine txt_loop ((Walks.list h3 _ l nI its).toS) s.heap.objs.size nS xs sz (by omega) (fun i v hv => ?_) (its.size - 0) 0 _ (by omega) (Nat.zero_le _) ⟨⟨_, Heap.get?_push_size _ rfl, rfl, rfl⟩, hl'.push _⟩ ?_ ?_
      · have lt : i < xs.length := by rw [sz]; exact (Array.getElem?_eq_some_iff.mp hv).1
        obtain ⟨u, e⟩ := SS.strs_at vs i v (by rw [Array.getElem?_toList]; exact hv)
        refine ⟨xs[i], u, List.getElem?_eq_getElem lt, ?_⟩
        rw [e, List.getD_eq_getElem?_getD, List.getElem?_eq_getElem lt]
        rfl
      · exact txt_fresh (Heap.get?_push_of_some _ at0)
      · intro s' mv T
        obtain ⟨h', g2, d', tk', os'⟩ := s'
        have e1 : g2 = s.gens := mv.gens
        have e2 : d' = s.drawn := mv.drawn
        have e3 : os' = s.os := mv.os
        subst e1; subst e2; subst e3
        show wpAny _ _ _ _ _ _
        refine wpAny_pure ?_
        show wpAny _ _ (ret Value.none) _ _ _
        refine wpAny_pure ⟨rfl, h', tk', rfl, T, fun b o e => ?_⟩
        have lb : b < s.heap.objs.size := Heap.lt_size e
        refine mv.heap b o (fun m => ?_) (Heap.get?_push_of_some _ (Heap.get?_push_of_some _ e))
        rcases List.mem_cons.mp m with m | m
        · exact absurd m (Nat.ne_of_lt lb)
        · rw [List.mem_singleton, z1] at m
          exact absurd m (Nat.ne_of_lt (Nat.lt_succ_of_lt lb))
    · rcases r2 with e | fl2
      · exact hr2
      cases fl2 with
      | brk => exact hr2.elim
      | cont => exact hr2.elim
      | next => exact hr2.elim
      | ret v =>
        obtain ⟨rfl, h', tk, rfl, T, keep⟩ := hr2
        repeat (any_goals (first | assumption | wp_step))
        exact q _ _ T keep
/-- sorted of such a set -/
theorem txt_sorted {a : Addr} {L : List Str} {Q : Value → Shared → Prop} (R : TxtSet w s.heap a L) (hh : A.handled = none) (few : L.length < 64)
    (q : ∀ s' p (out : Array Value) (c : Nat) (ys : List Str), (∀ b o, s.heap.get? b = some o → s'.heap.get? b = some o) → s'.gens = s.gens → s'.os = s.os → s.heap.objs.size ≤ p →
      s'.heap.get? p = some (seqObj "list" out c) → StrsAre out.toList ys → ys.Perm L → sortedS ys = true → Q (.ref p) s') :
    wpAny (model P w) A (call (.builtin "sorted") [.ref a]) Q E s := by
  obtain ⟨⟨o, es, ep, t, ho, hx, hd, g, p, f, r, l⟩, nd, _⟩ := R
  have b0 : es.size < scanBound := by rw [len_es p]; exact Nat.lt_trans few (by decide)
  refine Calls.call_function_entry PyProof.Rows.kind_sorted PyProof.Rows.plain_sorted PyProof.Rows.entry_sorted (PyProof.Rows.args_sorted1 _) ?_
  unfold Builtin.«sorted»
  refine wpAny_bind (m := checkCount "sorted" 1 1 _) (wpAny_pure (wpAny_bind (collect_set (A := A.in1) hh ⟨o, ho, hx.1, hd⟩ f b0 r l fun s1 vs k1 hz g1 o1 pm => ?_)))
  have lv : vs.length = L.length := by rw [pm.length_eq, List.length_map, Array.length_toList]; exact len_es p
  obtain ⟨ts, hts, pt⟩ : ∃ ts : List Str, StrsAre vs ts ∧ ts.Perm L := by
    have all : ∀ us : List Value, (∀ v ∈ us, ∃ x u, v = .str x u) → StrsAre us (us.map fun v => txt (0, v)) := by
      intro us
      induction us with
      | nil => exact fun _ => .nil
      | cons v us ih =>
        intro h
        obtain ⟨x, u, rfl⟩ := h v (List.mem_cons_self ..)
        exact .cons x u (ih fun y m => h y (List.mem_cons_of_mem _ m))
    refine ⟨_, all vs fun v m => ?_, ((pm.map fun v => txt (0, v)).trans ?_).trans p⟩
    · obtain ⟨e, me, q⟩ := List.mem_map.mp (pm.mem_iff.mp m)
      obtain ⟨x, u, h1, _⟩ := g e me
      exact ⟨x, u, by rw [← q]; exact h1⟩
    · rw [List.map_map]
      exact List.Perm.refl _
  refine wpAny_bind (wpAny_newList ?_ (by rw [lv, sizeLine_eq]; omega))
  have hoL : (s1.heap.push (seqObj "list" vs.toArray 0)).get? s1.heap.objs.size = some (seqObj "list" vs.toArray 0) := Heap.get?_push_size _ rfl
  refine wpAny_bind (wpAny_holding (wpAny_call_entry PyProof.Rows.slot_list_sort ⟨_, hoL, rfl⟩ PyProof.Rows.entry_list_sort
    (list_sort_treeK strKind_oneLt hoL hts.keysOf (fun v1 v2 rest e => keyKind_strs (by rw [← e]; exact hts)) (by rw [lv]; exact few) fun st hp hs => ⟨_, rfl, ?_⟩) (PyProof.Rows.args_list_sort _)))
  obtain ⟨ys, y1, y2, y3⟩ := sorted_out_str hts hp hs
  obtain ⟨c, hc⟩ := PyProof.Rows.sortedHeap_at (vs := vs) (out := (arrOf st).map (·.2)) hoL
  refine wpAny_pure ⟨_, rfl, q _ s1.heap.objs.size ((arrOf st).map (·.2)) c ys (fun b u e => ?_) g1 o1 hz hc y1 (y2.trans pt) y3⟩
  have e' := k1 b u e
  have lt := Heap.lt_size e'
  show (PyProof.Rows.sortedHeap (s1.heap.push (seqObj "list" vs.toArray 0)) s1.heap.objs.size vs ((arrOf st).map (·.2))).get? b = some u
  rw [PyProof.Rows.sortedHeap_old (Nat.ne_of_lt lt) (by rw [size_push']; exact Nat.lt_succ_of_lt lt)]
  exact Heap.get?_push_of_some _ e'
end
end Kn


/-! Kn: set(a list of keys), and sorted of a set of keys. -/
namespace Kn
open PySem PySem.Spec PyProof.Rows L2
/-- what a set has got of these items -/
structure Of (ms M : List Mem) : Prop where
  sub : ∀ m ∈ M, m ∈ ms
  all : ∀ m ∈ ms, m.2 ∈ M.map (·.2)
  len : M.length ≤ ms.length
theorem Of.nil : Of [] [] := ⟨fun _ h => (by cases h), fun _ h => (by cases h), Nat.le_refl _⟩
theorem Of.old {ms M : List Mem} {x : Mem} (g : Of ms M) (h : x.2 ∈ M.map (·.2)) : Of (ms ++ [x]) M := by
  refine ⟨fun m hm => List.mem_append_left _ (g.sub m hm), fun m hm => ?_, by rw [List.length_append]; have := g.len; omega⟩
  rcases List.mem_append.mp hm with z | z
  · exact g.all m z
  · rw [List.mem_singleton.mp z]
    exact h
theorem Of.new {ms M M' : List Mem} {x : Mem} (g : Of ms M) (p : M'.Perm (x :: M)) : Of (ms ++ [x]) M' := by
  refine ⟨fun m hm => ?_, fun m hm => ?_, ?_⟩
  · rcases List.mem_cons.mp (p.mem_iff.mp hm) with z | z
    · rw [z]
      exact List.mem_append_right _ (List.mem_singleton.mpr rfl)
    · exact List.mem_append_left _ (g.sub m z)
  · rw [(p.map (·.2)).mem_iff, List.map_cons]
    rcases List.mem_append.mp hm with z | z
    · exact List.mem_cons_of_mem _ (g.all m z)
    · rw [List.mem_singleton.mp z]
      exact List.mem_cons_self
  · rw [p.length_eq, List.length_append]
    have := g.len
    show _ + 1 ≤ _ + 1
    omega
section
variable {P : Program} {w : World} {A : Around} {E : Value → Shared → Prop} {s : Shared}
/-- set.update's loop over anything that yields keys -/
theorem key_loop {I : Addr} {fp wr : List Addr} {G : Array GenState → Array GenState → Prop} {n : Nat} {Pv : Nat → Value → Prop} {St : Nat → Shared → Prop} {R : Result → Shared → Prop} (W : WalksS P w A.in1 I fp wr G n Pv St) (a : Addr) (out : a ∉ fp)
    (ms : List Mem) (hn : ms.length = n) (room : n + 1 < 64) (val : ∀ i v, Pv i v → ∃ m, ms[i]? = some m ∧ v = .ref m.1) (h0 : Heap) (keys : ∀ m ∈ ms, KeyAt h0 m) (fa : h0.get? a = none) (fw : ∀ b ∈ wr, h0.get? b = none) (hu : A.in1.units + 8 < cLine) :
    ∀ (k i : Nat) (s : Shared), n - i = k → i ≤ n → St i s → (∀ b o, h0.get? b = some o → s.heap.get? b = some o) → (∃ M, KSetN w 64 s.heap a M ∧ Of (ms.take i) M) →
      (∀ s' M, Moved (a :: wr) G s s' → KSetN w 64 s'.heap a M → Of ms M → R (.ok (.ret .none)) s') →
      codeAny (model P w) A (.builtin "set.update.loop" ⟨[.ref a, .ref I], []⟩) R s := by
  have ow : a ∉ wr := fun z => out (W.sub _ z)
  have wider : ∀ b ∈ wr, b ∈ a :: wr := fun b m => List.mem_cons_of_mem _ m
  have keepM : ∀ {s s' : Shared}, Moved wr G s s' → (∀ b o, h0.get? b = some o → s.heap.get? b = some o) → ∀ b o, h0.get? b = some o → s'.heap.get? b = some o := fun mv kp b o e =>
    mv.heap b o (fun z => by rw [fw b z] at e; cases e) (kp b o e)
  intro k
  induction k with
  | zero =>
    intro i s hk hi st kp ⟨M, T, g⟩ fin
    obtain rfl : i = n := by omega
    refine codeAny_builtin PyProof.Rows.F.entry_set_update_loop ?_
    rw [Around.under_plainId PyProof.Rows.F.plain_set_update_loop _]
    show wpAny (model P w) A.in1 (pyNext (.ref I) >>= _) _ _ s
    refine wpAny_bind (W.done s _ _ st fun s' mv => ?_)
    show wpAny (model P w) A.in1 (ret Value.none) _ _ s'
    rw [List.take_of_length_le (by omega)] at g
    exact wpAny_pure (fin s' M (mv.mono wider) (T.move fun o e => mv.heap a o ow e) g)
  | succ k ih =>
    intro i s hk hi st kp ⟨M, T, g⟩ fin
    have lt : i < n := by omega
    refine codeAny_builtin PyProof.Rows.F.entry_set_update_loop ?_
    rw [Around.under_plainId PyProof.Rows.F.plain_set_update_loop _]
    show wpAny (model P w) A.in1 (pyNext (.ref I) >>= _) _ _ s
    refine wpAny_bind (W.item i s _ _ lt st fun v s' hv st' mv => ?_)
    obtain ⟨m, hm, rfl⟩ := val i v hv
    have kp' := keepM mv kp
    have T' := T.move fun o e => mv.heap a o ow e
    have hx : KeyAt s'.heap m := (keys m (List.mem_of_getElem? hm)).move kp'
    have ks : ∀ y ∈ M, KeyAt s'.heap y := fun y hy => (keys y (List.mem_of_mem_take (g.sub y hy))).move kp'
    show wpAny (model P w) A.in1 (holding [Value.ref m.1] (setAdd a (.ref m.1)) >>= _) _ _ s'
    refine wpAny_bind (wpAny_holding ?_)
    unfold setAdd
    have lg := g.len
    have lt2 : (ms.take i).length ≤ i := by rw [List.length_take]; omega
    refine wpAny_holding (wpAny_bind ((nestedKind P w).pyHash (k := m.2) (show A.in1.units + 8 < cLine from hu) hx ?_))
    refine set_add (s := { s' with toks := s'.toks + (nestedKind P w).draws m.2 }) T' ks hx hu (by omega) (by omega) fun b h' M' same T2 c1 c2 _ => ?_
    have tk : ms.take i ++ [m] = ms.take (i + 1) := by rw [List.take_add_one, hm]; rfl
    have g' : Of (ms.take (i + 1)) M' := by
      rw [← tk]
      rcases Classical.em (m.2 ∈ M.map (·.2)) with c | c
      · rw [c1 c]
        exact g.old c
      · exact g.new (c2 c)
    have stay : ∀ b o, b ≠ a → s'.heap.get? b = some o → h'.get? b = some o := fun b o z e => (same.2 b z).trans e
    have kp2 : ∀ b o, h0.get? b = some o → h'.get? b = some o := fun b o e => stay b o (fun z => by rw [z, fa] at e; cases e) (kp' b o e)
    refine wpAny_pure ⟨plainId_quiet PyProof.Rows.F.plain_set_update_loop _, ih (i + 1) _ (by omega) lt (W.frame _ s' _ _ st' (Nat.le_add_right _ _) fun b m o e => stay b o (fun z => out (z ▸ m)) e) kp2 ⟨M', T2, g'⟩ fun s'' M2 mv2 T3 g3 => ?_⟩
    exact fin s'' M2 (Moved.trans W.gtrans ((mv.mono wider).then_heap (Nat.le_add_right _ _) fun b o m e => stay b o (fun z => m (z ▸ List.mem_cons_self ..)) e) mv2) T3 g3
theorem key_fresh {h : Heap} {a : Addr} (ho : h.get? a = some (setObj0 w)) : KSetN w 64 h a [] := by
  refine ⟨_, _, _, _, ho, ⟨rfl, rfl, rfl⟩, rfl, rfl, ⟨List.Pairwise.nil, rfl, rfl, .inl (.inl rfl), fun x hx => (by cases hx), fun i h j hi => (by simp at hi)⟩, ?_, by show 0 * 5 < 7 * 3; decide, List.nodup_nil, by show 0 < 64; decide, fun e => by cases e⟩
  show _ ∨ (!w.params.followText "set-order") = true
  cases w.params.followText "set-order"
  · exact .inr rfl
  · exact .inl rfl
/-- set(xs) of a list of keys -/
theorem key_set {l : Addr} {its : Array Value} (ms : List Mem) {Q : Value → Shared → Prop} (hh : A.handled = none) (hl : s.heap.IsList l its) (vs : its.toList = ms.map fun m => Value.ref m.1) (keys : ∀ m ∈ ms, KeyAt s.heap m) (room : ms.length + 1 < 64) (hu : A.units + 32 < cLine)
    (q : ∀ (h' : Heap) (tk : Nat) (M : List Mem), KSet w h' s.heap.objs.size M → Of ms M → (∀ b o, s.heap.get? b = some o → h'.get? b = some o) → Q (.ref s.heap.objs.size) { s with heap := h', toks := tk }) :
    wpAny (model P w) A (call (.type "set") [.ref l]) Q E s := by
  have sz : ms.length = its.size := by rw [← Array.length_toList, vs, List.length_map]
  obtain ⟨cl, tl, hmro⟩ := PySem.F.called_set.mro
  have k1 := PySem.F.called_set.made
  have k2 := PySem.F.called_set.sub
  have k3 := PySem.F.called_set.notType
  have k4 := PySem.F.called_set.canCreate
  have k5 := PySem.F.typeCall_set_1 (.ref l)
  refine wpAny_call (codeAny_of_tree ?_)
  show wpAny _ _ (callAny (.type "set") _) _ _ _
  refine wpAny_pure ⟨Code.quiet_builtin _ (by decide +kernel), codeAny_builtin PySem.F.entry_type_call ?_⟩
  rw [Around.under_plain (weight_type_call_type "set" [.ref l] []) rfl]
  repeat (any_goals (first | assumption | wp_step))
  refine codeAny_mono (code_set_led1 (.ref l) (E := E) (Q₁ := fun v s1 => v = .ref s.heap.objs.size ∧ s1 = { s with heap := s.heap.push (setObj0 w) }) ⟨rfl, rfl⟩) fun r s1 hr => ?_
  rcases r with e | fl
  · exact hr
  cases fl with
  | brk => exact hr.elim
  | cont => exact hr.elim
  | next => exact hr.elim
  | ret v =>
    obtain ⟨rfl, rfl⟩ := hr
    have at0 : (s.heap.push (setObj0 w)).get? s.heap.objs.size = some (setObj0 w) := Heap.get?_push_size _ rfl
    have ty0 : Shared.TypeIs { s with heap := s.heap.push (setObj0 w) } (.ref s.heap.objs.size) "set" := ⟨_, at0, rfl⟩
    have k6 := PySem.F.called_set.init.lookup
    have k7 := PySem.F.called_set.init.bind (.ref s.heap.objs.size)
    repeat (any_goals (first | assumption | wp_step))
    refine codeAny_mono (codeAny_call_builtin (R := wants (fun r s2 => r = .none ∧ ∃ h' tk M, s2 = { s with heap := h', toks := tk } ∧ KSet w h' s.heap.objs.size M ∧ Of ms M ∧ ∀ b o, s.heap.get? b = some o → h'.get? b = some o) E)
      PySem.F.called_set.init.plain PySem.F.entry_set_init (check_set_init_1 ty0 ?_)) fun r2 s2 hr2 => ?_
    · obtain ⟨⟨oc, od, oda, osl⟩, ho, hc, nl, hd⟩ := hl
      simp only at hc hd
      subst hc; subst hd
      have ho' : (s.heap.push (setObj0 w)).get? l = some { cls := .type "list", dict := od, data := .seq its nl, slots := osl } := Heap.get?_push_of_some _ ho
      have hl' : (s.heap.push (setObj0 w)).IsList l its := ⟨_, ho', rfl, nl, rfl⟩
      have j1 := PySem.F.sub_list_set
      have j2 := PySem.F.sub_list_frozenset
      have j3 : (Value.type "list" == Value.type "dict") = false := by decide
      unfold Builtin.«set.__init__» noKeywords Builtin.Frozenset.updateFrom
      generalize hPI : pyIter = PI
      wp_walk
      subst hPI
      have lS : l < s.heap.objs.size := Heap.lt_size ho
      have z1 : (s.heap.push (setObj0 w)).objs.size = s.heap.objs.size + 1 := Heap.size_push ..
      have nI : l ≠ (s.heap.push (setObj0 w)).objs.size := by rw [z1]; exact Nat.ne_of_lt (Nat.lt_succ_of_lt lS)
      have nS : s.heap.objs.size ∉ [(s.heap.push (setObj0 w)).objs.size, l] := by
        rw [z1]
        intro m
        simp only [List.mem_cons, List.not_mem_nil, or_false] at m
        rcases m with m | m
        · exact absurd m (Nat.ne_of_lt (Nat.lt_succ_self _))
        · exact absurd m.symm (Nat.ne_of_lt lS)
      have h3 : A.in1.in1.in1.handled = none := by simp [hh]
      refine wpAny_pyIter_list hl' (wpAny_bind (wpAny_runValue ?_))
      refine key_loop ((Walks.list h3 _ l nI its).toS) s.heap.objs.size nS ms sz (by omega) (fun i v hv => ?_) s.heap keys (Heap.get?_none_of_le (Nat.le_refl _)) (fun b hb => ?_) ?_ (its.size - 0) 0 _ (by omega) (Nat.zero_le _) ⟨⟨_, Heap.get?_push_size _ rfl, rfl, rfl⟩, hl'.push _⟩ (fun b o e => Heap.get?_push_of_some _ (Heap.get?_push_of_some _ e)) ⟨[], ?_, Of.nil⟩ ?_
      · have lt : i < ms.length := by rw [sz]; exact (Array.getElem?_eq_some_iff.mp hv).1
        refine ⟨ms[i], List.getElem?_eq_getElem lt, ?_⟩
        have z : its.toList[i]? = some v := by rw [Array.getElem?_toList]; exact hv
        rw [vs, List.getElem?_map, List.getElem?_eq_getElem lt] at z
        exact (Option.some.inj z).symm
      · rw [List.mem_singleton.mp hb, z1]
        exact Heap.get?_none_of_le (Nat.le_succ _)
      · simp only [Around.in1_units]
        omega
      · exact key_fresh (Heap.get?_push_of_some _ at0)
      · intro s' M mv T g
        obtain ⟨h', g2, d', tk', os'⟩ := s'
        have e1 : g2 = s.gens := mv.gens
        have e2 : d' = s.drawn := mv.drawn
        have e3 : os' = s.os := mv.os
        subst e1; subst e2; subst e3
        show wpAny _ _ _ _ _ _
        refine wpAny_pure ?_
        show wpAny _ _ (ret Value.none) _ _ _
        refine wpAny_pure ⟨rfl, h', tk', M, rfl, ⟨_, T⟩, g, fun b o e => ?_⟩
        have lb : b < s.heap.objs.size := Heap.lt_size e
        refine mv.heap b o (fun m => ?_) (Heap.get?_push_of_some _ (Heap.get?_push_of_some _ e))
        rcases List.mem_cons.mp m with m | m
        · exact absurd m (Nat.ne_of_lt lb)
        · rw [List.mem_singleton, z1] at m
          exact absurd m (Nat.ne_of_lt (Nat.lt_succ_of_lt lb))
    · rcases r2 with e | fl2
      · exact hr2
      cases fl2 with
      | brk => exact hr2.elim
      | cont => exact hr2.elim
      | next => exact hr2.elim
      | ret v =>
        obtain ⟨rfl, h', tk, M, rfl, T, g, keep⟩ := hr2
        repeat (any_goals (first | assumption | wp_step))
        exact q _ _ M T g keep
end
end Kn


/-! Kn: sorted of a list of data, set of a list of tuples of any depth, sorted of such a set. -/
namespace Kn
open PySem PySem.Spec PyProof.Rows L2
open PySem.W (dataLe dataLt keyToks keyToksAll alike alikeAll AllAlike Sortable EachIs sort_pairwise sortLe_total list_sort_data sorted_data)
/-! ### data as keys -/
mutual
def keyB : PyData → Bool
  | .none => true
  | .bool _ => true
  | .int _ => true
  | .str _ => true
  | .tuple ds => keysB ds
  | .list _ => false
  | .dict _ => false
def keysB : List PyData → Bool
  | [] => true
  | d :: r => keyB d && keysB r
end
mutual
def keyD : PyData → NestedKey
  | .none => .none
  | .bool b => .num (if b = true then 1 else 0)
  | .int i => .num i
  | .str x => .text x
  | .tuple ds => .tup (keyDs ds)
  | .list _ => .none
  | .dict _ => .none
def keyDs : List PyData → List NestedKey
  | [] => []
  | d :: r => keyD d :: keyDs r
end
mutual
theorem key_reads {h : Heap} : ∀ (d : PyData) (v : Value) (as : List Addr), keyB d = true → Reads h v d as → as = [] ∧ NestedIs h (keyD d) v
  | .none, _, _, _, r => by cases r; exact ⟨rfl, .none⟩
  | .bool b, _, _, _, r => by cases r; exact ⟨rfl, .bool rfl⟩
  | .int i, _, _, _, r => by cases r; exact ⟨rfl, .int _ _⟩
  | .str x, _, _, _, r => by cases r; exact ⟨rfl, .text _ _⟩
  | .tuple ds, _, _, k, r => by
    cases r with
    | tuple h1 h2 h3 h4 =>
      obtain ⟨e, z⟩ := keys_reads ds _ _ k h4
      exact ⟨e, .tup h1 h2 h3 z⟩
  | .list _, _, _, k, _ => by cases k
  | .dict _, _, _, k, _ => by cases k
theorem keys_reads {h : Heap} : ∀ (ds : List PyData) (vs : List Value) (as : List Addr), keysB ds = true → ReadsAll h vs ds as → as = [] ∧ NestedAll h (keyDs ds) vs
  | [], _, _, _, r => by cases r; exact ⟨rfl, .nil⟩
  | d :: ds, _, _, k, r => by
    cases r with
    | cons r1 r2 =>
      obtain ⟨k1, k2⟩ := Bool.and_eq_true_iff.mp (show (keyB d && keysB ds) = true from k)
      obtain ⟨e1, z1⟩ := key_reads d _ _ k1 r1
      obtain ⟨e2, z2⟩ := keys_reads ds _ _ k2 r2
      exact ⟨by rw [e1, e2]; rfl, .cons z1 z2⟩
end
mutual
theorem key_depth : ∀ d : PyData, keyB d = true → (keyD d).depth = d.depth
  | .none, _ => rfl
  | .bool _, _ => rfl
  | .int _, _ => rfl
  | .str _, _ => rfl
  | .tuple ds, h => by
    show NestedKey.depthAll (keyDs ds) + 1 = PyData.depthAll ds + 1
    rw [keys_depth ds h]
  | .list _, h => by cases h
  | .dict _, h => by cases h
theorem keys_depth : ∀ ds : List PyData, keysB ds = true → NestedKey.depthAll (keyDs ds) = PyData.depthAll ds
  | [], _ => rfl
  | d :: r, h => by
    obtain ⟨h1, h2⟩ := Bool.and_eq_true_iff.mp (show (keyB d && keysB r) = true from h)
    show max (keyD d).depth (NestedKey.depthAll (keyDs r)) = max d.depth (PyData.depthAll r)
    rw [key_depth d h1, keys_depth r h2]
end
/-! ### orders -/
abbrev Cell := Addr × PyData
abbrev leD {β : Type} (f : β → PyData) : β → β → Bool := dataLe false f
theorem sorted_le {β : Type} (f : β → PyData) (l : List β) : (l.mergeSort (leD f)).Pairwise fun a b => leD f a b = true := sort_pairwise (sortLe_total _ false _) l
theorem lift_perm {α β : Type} {f : α → β} : ∀ (vs : List β) (ps : List α), vs.Perm (ps.map f) → ∃ qs : List α, qs.Perm ps ∧ vs = qs.map f
  | [], ps, h => by
    have z := h.length_eq
    rw [List.length_map] at z
    exact ⟨[], by rw [List.eq_nil_of_length_eq_zero z.symm], rfl⟩
  | v :: vs, ps, h => by
    obtain ⟨p, hp, rfl⟩ := List.mem_map.mp (h.mem_iff.mp (List.mem_cons_self ..))
    obtain ⟨s, t, rfl⟩ := List.append_of_mem hp
    have pm : (s ++ p :: t).Perm (p :: (s ++ t)) := List.perm_middle
    have h2 : vs.Perm ((s ++ t).map f) := (List.perm_cons (f p)).mp (h.trans (pm.map f))
    obtain ⟨qs, q1, q2⟩ := lift_perm vs (s ++ t) h2
    exact ⟨p :: qs, (List.Perm.cons p q1).trans pm.symm, by rw [q2, List.map_cons]⟩
section
variable {P : Program} {w : World} {A : Around} {E : Value → Shared → Prop} {s : Shared}
theorem each_refs {ps : List Cell} {h : Heap} (r : ∀ p ∈ ps, Reads h (.ref p.1) p.2 []) : EachIs (fun v b => ∃ as, Reads h v b.2 as ∧ as = []) (ps.map fun p => Value.ref p.1) ps := by
  induction ps with
  | nil => exact .nil
  | cons p ps ih => exact .cons ⟨[], r p (List.mem_cons_self ..), rfl⟩ (ih fun q hq => r q (List.mem_cons_of_mem _ hq))
theorem each_id (ps : List Cell) : EachIs (fun (v : Value) (b : Cell) => v = .ref b.1) (ps.map fun p => Value.ref p.1) ps := by
  induction ps with
  | nil => exact .nil
  | cons p ps ih => exact .cons rfl ih
theorem refs_each {vs : List Value} {ps : List Cell} (h : EachIs (fun (v : Value) (b : Cell) => v = .ref b.1) vs ps) : vs = ps.map fun p => Value.ref p.1 := by
  induction h with
  | nil => rfl
  | cons e _ ih => rw [e, ih]; rfl
/-- sorted of a set of keys -/
theorem key_sorted {a : Addr} {ps : List Cell} {Q : Value → Shared → Prop} (R : KSet w s.heap a (ps.map fun p => (p.1, keyD p.2))) (hh : A.handled = none) (rd : ∀ p ∈ ps, Reads s.heap (.ref p.1) p.2 []) (al : AllAlike (ps.map (·.2))) (so : Sortable (ps.map (·.2))) (hu : ∀ p ∈ ps, A.units + 8 + p.2.depth < cLine)
    (q : ∀ s' l (c : Nat) (qs : List Cell), (∀ b o, s.heap.get? b = some o → s'.heap.get? b = some o) → s'.gens = s.gens → s'.os = s.os → s.heap.objs.size ≤ l →
      s'.heap.get? l = some (seqObj "list" (qs.map fun p => Value.ref p.1).toArray c) → qs.Perm ps → qs.Pairwise (fun x y => leD (fun p : Cell => p.2) x y = true) → Q (.ref l) s') :
    wpAny (model P w) A (call (.builtin "sorted") [.ref a]) Q E s := by
  obtain ⟨C, R⟩ := R.ex
  obtain ⟨o, es, ep, t, ho, hx, hd, T⟩ := R.ex
  have few : ps.length < 64 := by have := T.few; rwa [List.length_map] at this
  have sz : es.size = ps.length := by rw [T.size, List.length_map]
  have b0 : es.size < scanBound := by rw [sz]; exact Nat.lt_trans few (by decide)
  refine Calls.call_function_entry PyProof.Rows.kind_sorted PyProof.Rows.plain_sorted PyProof.Rows.entry_sorted (PyProof.Rows.args_sorted1 _) ?_
  unfold Builtin.«sorted»
  refine wpAny_bind (m := checkCount "sorted" 1 1 _) (wpAny_pure (wpAny_bind (collect_set (A := A.in1) hh ⟨o, ho, hx.1, hd⟩ T.fits b0 T.ok.asc T.led fun s1 vs k1 hz g1 o1 pm => ?_)))
  have e1 : es.toList.map (·.2) = ps.map fun p => Value.ref p.1 := by
    rw [T.rows, List.map_map, List.map_map]
    rfl
  rw [e1] at pm
  obtain ⟨qs, pq, rfl⟩ := lift_perm _ _ pm
  have lq : qs.length = ps.length := pq.length_eq
  refine wpAny_bind (wpAny_newList ?_ (by rw [List.length_map, lq, sizeLine_eq]; omega))
  have hoL : (s1.heap.push (seqObj "list" (qs.map fun p => Value.ref p.1).toArray 0)).get? s1.heap.objs.size = some (seqObj "list" (qs.map fun p => Value.ref p.1).toArray 0) := Heap.get?_push_size _ rfl
  have al2 : AllAlike (qs.map (·.2)) := fun d hd' e he => by
    have p2 := pq.map (·.2)
    exact al d (p2.mem_iff.mp hd') e (p2.mem_iff.mp he)
  have so2 : Sortable (qs.map (·.2)) := by
    have p2 := pq.map (·.2)
    rcases so with z | z
    · exact .inl fun d hd' => z d (p2.mem_iff.mp hd')
    · exact .inr fun d hd' => z d (p2.mem_iff.mp hd')
  have rd2 : ∀ p ∈ qs, Reads (s1.heap.push (seqObj "list" (qs.map fun p => Value.ref p.1).toArray 0)) (.ref p.1) p.2 [] := fun p hp =>
    PyProof.Rows.Reads.keeps (fun b o e => Heap.get?_push_of_some _ (k1 b o e)) (rd p (pq.mem_iff.mp hp))
  refine wpAny_bind (wpAny_holding (list_sort_data (enc := fun p : Cell => p.2) (bs := qs) (R := fun v b => v = .ref b.1) hoL (each_id qs) ((each_refs rd2).mono fun v b ⟨as, r, e⟩ => ⟨as, r, by rw [e]; exact List.not_mem_nil⟩) al2 so2 (by rw [lq]; exact Nat.le_trans (Nat.le_of_lt few) (by decide))
    (fun p hp => by have := hu p (pq.mem_iff.mp hp); simp only [Around.in1_units]; omega) fun out lo eo => ?_))
  have eo := refs_each eo
  subst eo
  obtain ⟨c, hc⟩ := PyProof.Rows.sortedHeap_at (vs := qs.map fun p => Value.ref p.1) (out := ((qs.mergeSort (dataLe false fun p : Cell => p.2)).map fun p => Value.ref p.1).toArray) hoL
  refine wpAny_pure ⟨_, rfl, q _ s1.heap.objs.size c (qs.mergeSort (dataLe false fun p : Cell => p.2)) (fun b u e => ?_) g1 o1 hz hc ((List.mergeSort_perm _ _).trans pq) (sorted_le _ _)⟩
  have e' := k1 b u e
  have lt := Heap.lt_size e'
  show (PyProof.Rows.sortedHeap (s1.heap.push (seqObj "list" (qs.map fun p => Value.ref p.1).toArray 0)) s1.heap.objs.size (qs.map fun p => Value.ref p.1) _).get? b = some u
  rw [PyProof.Rows.sortedHeap_old (Nat.ne_of_lt lt) (by rw [size_push']; exact Nat.lt_succ_of_lt lt)]
  exact Heap.get?_push_of_some _ e'
end
end Kn


namespace Kn
open PySem PySem.Spec PyProof.Rows L2
/-- the tracked set of texts -/
def SetTx (w : World) (a : Addr) (L : List Str) : HO := .ext fun h => TxtSet w h a L
section
variable {X : Cx}
theorem setTx_new {w : World} {P : Program} {H : Hp} {h : Heap} {a : Addr} {L : List Str} (R : TxtSet w h a L) : ObjOk P w H h a (SetTx w a L) := by
  have ⟨⟨o, _, _, _, ho, _⟩, _, _⟩ := R
  exact ⟨R, ⟨o, ho⟩, fun h1 h2 p k => p.move k⟩
theorem setTx_get {pins : List (Addr × Obj)} {σ : L2.St} {H : Hp} {s : Shared} {a : Addr} {L : List Str} (I : Inv X pins σ H s) (ha : H a = some (SetTx X.w a L)) : TxtSet X.w s.heap a L := (I.hok a _ ha).1
/-- set(xs) of texts -/
def rSetTx (K : PySem.W.Frag) (w : World) : List V → Hp → VK → Prop := fun vs H Q => ∃ (l : Addr) (xs : List Str), vs = [.ref l] ∧ SqL K H l (xs.map V.str) ∧ xs.length < 1000 ∧ ∀ p, H p = none → Q (.ref p) (upd H p (SetTx w p (gathered xs)))
theorem cr_setTx (hc : X.calm = true) : CallR X (.type "set") (rSetTx X.K X.w) := by
  intro pins s σ H vs us Q I r h
  obtain ⟨l, xs, rfl, hl, few, q⟩ := h
  rw [Vals.ref1 r]
  obtain ⟨its, rv, pl, hz⟩ := I.list hl
  have room : xs.length + 1 < scanBound := Nat.lt_of_lt_of_le (Nat.succ_lt_succ few) (by decide)
  refine txt_set xs (I.ok.hd hc) pl.isList (by simpa using rv.strs) room fun h' tk T keep => ?_
  exact ⟨.ref _, upd H s.heap.objs.size (SetTx X.w s.heap.objs.size (gathered xs)), I.laid (t' := tk) keep (Nat.le_refl _) (setTx_new T), rfl, q _ (I.hok.fresh (Nat.le_refl _))⟩
/-- sorted of it -/
def rSortedTx (w : World) : List V → Hp → VK → Prop := fun vs H Q => ∃ (a : Addr) (L : List Str), vs = [.ref a] ∧ H a = some (SetTx w a L) ∧ L.length < 64 ∧ ∀ (ys : List Str) (p : Addr), ys.Perm L → sortedS ys = true → H p = none → Q (.ref p) (upd H p (.lst (ys.map V.str)))
theorem cr_sortedTx (hc : X.calm = true) : CallR X (.builtin "sorted") (rSortedTx X.w) := by
  intro pins s σ H vs us Q I r h
  obtain ⟨a, L, rfl, ha, few, q⟩ := h
  rw [Vals.ref1 r]
  refine txt_sorted (setTx_get I ha) (I.ok.hd hc) few fun s' p out c ys keep g o hp hg hi pm so => ?_
  have len : (ys.map V.str).length ≤ sizeLine := by rw [List.length_map, pm.length_eq]; exact Nat.le_trans (Nat.le_of_lt few) (by decide)
  have fresh : H p = none := I.hok.fresh hp
  have J : Inv X pins σ (upd H p (.lst (ys.map V.str))) { s with heap := s'.heap, gens := s'.gens, drawn := s'.drawn, toks := s'.toks } :=
    I.call (ch := []) (Un.laid keep hp fresh) (I.hok.laid keep hp ⟨len, out.toList, c, vals_of_strs hi, hg⟩) (by rw [g]; exact I.bare) (fun _ z => nomatch z)
  have e : s' = { s with heap := s'.heap, gens := s'.gens, drawn := s'.drawn, toks := s'.toks } := by
    rcases s' with ⟨a1, a2, a3, a4, a5⟩
    rcases s with ⟨b1, b2, b3, b4, b5⟩
    cases o
    rfl
  rw [e]
  exact ⟨.ref p, _, J, rfl, q ys p pm so fresh⟩
end
end Kn


/-! Kn: the calls of sorted and set, over the layer. -/
namespace Kn
open PySem PySem.Spec PyProof.Rows L2
open PySem.W (dataLe dataLt keyToks keyToksAll alike alikeAll AllAlike Sortable EachIs sort_pairwise sortLe_total list_sort_data sorted_data)
def SetK (w : World) (a : Addr) (M : List Mem) : HO := .ext fun h => KSet w h a M
abbrev memOf (p : Cell) : Mem := (p.1, keyD p.2)
theorem setK_new {w : World} {P : Program} {H : Hp} {h : Heap} {a : Addr} {M : List Mem} (R : KSet w h a M) : ObjOk P w H h a (SetK w a M) := by
  obtain ⟨_, R1⟩ := R.ex
  obtain ⟨o, _, _, _, ho, _⟩ := R1.ex
  exact ⟨R, ⟨o, ho⟩, fun h1 h2 p k => p.move k⟩
section
variable {X : Cx}
theorem dp_key {pins : List (Addr × Obj)} {σ : L2.St} {H : Hp} {s : Shared} {p : Addr} {d : PyData} (I : Inv X pins σ H s) (h : Dp X.K H (.ref p) d) (k : keyB d = true) : Reads s.heap (.ref p) d [] ∧ NestedIs s.heap (keyD d) (.ref p) := by
  obtain ⟨as, r⟩ := Dp.reads I d _ _ h rfl
  obtain ⟨e, z⟩ := key_reads d _ _ k r
  subst e
  exact ⟨r, z⟩
theorem lift_sub {α β : Type} {f : α → β} {ps : List α} : ∀ (M : List β), (∀ m ∈ M, m ∈ ps.map f) → ∃ qs : List α, qs.map f = M ∧ ∀ q ∈ qs, q ∈ ps
  | [], _ => ⟨[], rfl, fun _ h => by cases h⟩
  | m :: M, h => by
    obtain ⟨p, hp, rfl⟩ := List.mem_map.mp (h m (List.mem_cons_self ..))
    obtain ⟨qs, e, q⟩ := lift_sub M fun x hx => h x (List.mem_cons_of_mem _ hx)
    refine ⟨p :: qs, by rw [List.map_cons, e], fun y hy => ?_⟩
    rcases List.mem_cons.mp hy with rfl | hy
    · exact hp
    · exact q y hy
/-- set(xs), xs a list of tuples of any depth -/
def rSetK (K : PySem.W.Frag) (w : World) : List V → Hp → VK → Prop := fun vs H Q => ∃ (l : Addr) (ps : List Cell), vs = [.ref l] ∧ SqL K H l (ps.map fun p => V.ref p.1) ∧ (∀ p ∈ ps, Dp K H (.ref p.1) p.2 ∧ keyB p.2 = true ∧ p.2.depth ≤ 8) ∧ ps.length + 1 < 64 ∧
  ∀ (a : Addr) (qs : List Cell), H a = none → (∀ q ∈ qs, q ∈ ps) → (∀ p ∈ ps, keyD p.2 ∈ qs.map fun q => keyD q.2) → (qs.map fun q => keyD q.2).Nodup → Q (.ref a) (upd H a (SetK w a (qs.map memOf)))
theorem refs_vals : ∀ {ps : List Cell} {us : List Value}, Vals (ps.map fun p => V.ref p.1) us → us = ps.map fun p => Value.ref p.1
  | [], _, .nil => rfl
  | p :: ps, _, .cons r t => by
    cases r
    rw [refs_vals t]
    rfl
theorem vals_refs : ∀ ps : List Cell, Vals (ps.map fun p => V.ref p.1) (ps.map fun p => Value.ref p.1)
  | [] => .nil
  | _ :: ps => .cons rfl (vals_refs ps)
theorem cr_setK (hc : X.calm = true) (hu : X.A.units + 64 < cLine) : CallR X (.type "set") (rSetK X.K X.w) := by
  intro pins s σ H vs us Q I r h
  obtain ⟨l, ps, rfl, hl, hp, few, q⟩ := h
  rw [Vals.ref1 r]
  obtain ⟨its, rv, pl, hz⟩ := I.list hl
  refine key_set (ps.map memOf) (I.ok.hd hc) pl.isList ?_ (fun m hm => ?_) (by rw [List.length_map]; exact few) (by omega) fun h' tk M T g keep => ?_
  · rw [List.map_map]
    have z := refs_vals rv
    show its = _
    rw [z]
    rfl
  · obtain ⟨p, hpm, rfl⟩ := List.mem_map.mp hm
    obtain ⟨d, k, dp⟩ := hp p hpm
    exact ⟨(dp_key I d k).2, by rw [key_depth _ k]; exact dp⟩
  · obtain ⟨qs, rfl, sub⟩ := lift_sub M g.sub
    obtain ⟨_, T1⟩ := T.ex
    obtain ⟨o, es, ep, t, ho, hx, hd, TT⟩ := T1.ex
    have nd := TT.nd
    rw [List.map_map] at nd
    refine ⟨.ref _, upd H s.heap.objs.size (SetK X.w s.heap.objs.size (qs.map memOf)), I.laid (t' := tk) keep (Nat.le_refl _) (setK_new T), rfl, q _ qs (I.hok.fresh (Nat.le_refl _)) sub (fun p hpm => ?_) nd⟩
    have z := g.all (memOf p) (List.mem_map.mpr ⟨p, hpm, rfl⟩)
    rw [List.map_map] at z
    exact z
/-- sorted of such a set -/
def rSortedK (K : PySem.W.Frag) (w : World) : List V → Hp → VK → Prop := fun vs H Q => ∃ (a : Addr) (ps : List Cell), vs = [.ref a] ∧ H a = some (SetK w a (ps.map memOf)) ∧ (∀ p ∈ ps, Dp K H (.ref p.1) p.2 ∧ keyB p.2 = true ∧ p.2.depth ≤ 8) ∧ AllAlike (ps.map (·.2)) ∧ Sortable (ps.map (·.2)) ∧
  ∀ (l : Addr) (qs : List Cell), H l = none → qs.Perm ps → qs.Pairwise (fun x y => leD (fun p : Cell => p.2) x y = true) → Q (.ref l) (upd H l (.lst (qs.map fun q => V.ref q.1)))
theorem cr_sortedK (hc : X.calm = true) (hu : X.A.units + 64 < cLine) : CallR X (.builtin "sorted") (rSortedK X.K X.w) := by
  intro pins s σ H vs us Q I r h
  obtain ⟨a, ps, rfl, ha, hp, al, so, q⟩ := h
  rw [Vals.ref1 r]
  have T : KSet X.w s.heap a (ps.map memOf) := (I.hok a _ ha).1
  have few : ps.length < 64 := by
    obtain ⟨_, T1⟩ := T.ex
    obtain ⟨o, es, ep, t, ho, hx, hd, TT⟩ := T1.ex
    have := TT.few
    rwa [List.length_map] at this
  refine key_sorted T (I.ok.hd hc) (fun p hpm => (dp_key I (hp p hpm).1 (hp p hpm).2.1).1) al so (fun p hpm => by have := (hp p hpm).2.2; omega) fun s' l c qs keep g o hl hg pm pw => ?_
  have len : (qs.map fun q => V.ref q.1).length ≤ sizeLine := by rw [List.length_map, pm.length_eq]; exact Nat.le_trans (Nat.le_of_lt few) (by decide)
  have fresh : H l = none := I.hok.fresh hl
  have J : Inv X pins σ (upd H l (.lst (qs.map fun q => V.ref q.1))) { s with heap := s'.heap, gens := s'.gens, drawn := s'.drawn, toks := s'.toks } :=
    I.call (ch := []) (Un.laid keep hl fresh) (I.hok.laid keep hl ⟨len, _, c, vals_refs qs, hg⟩) (by rw [g]; exact I.bare) (fun _ z => nomatch z)
  have e : s' = { s with heap := s'.heap, gens := s'.gens, drawn := s'.drawn, toks := s'.toks } := by
    rcases s' with ⟨a1, a2, a3, a4, a5⟩
    rcases s with ⟨b1, b2, b3, b4, b5⟩
    cases o
    rfl
  rw [e]
  exact ⟨.ref l, _, J, rfl, q l qs fresh pm pw⟩
/-- sorted of a list of data -/
abbrev VD := V × PyData
def rSortedD (K : PySem.W.Frag) : List V → Hp → VK → Prop := fun vs H Q => ∃ (a : Addr) (ps : List VD), vs = [.ref a] ∧ SqL K H a (ps.map (·.1)) ∧ (∀ p ∈ ps, Dp K H p.1 p.2 ∧ p.2.depth ≤ 8) ∧ AllAlike (ps.map (·.2)) ∧ Sortable (ps.map (·.2)) ∧
  ∀ (l : Addr) (qs : List VD), H l = none → qs.Perm ps → qs.Pairwise (fun x y => leD (fun p : VD => p.2) x y = true) → Q (.ref l) (upd H l (.lst (qs.map (·.1))))
theorem each_vals {s : Shared} : ∀ {ps : List VD} {us : List Value}, Vals (ps.map (·.1)) us → (∀ p ∈ ps, ∀ u, RelV p.1 u → ∃ as, Reads s.heap u p.2 as) → EachIs (fun v (b : VD) => RelV b.1 v) us ps ∧ EachIs (fun v (b : VD) => ∃ as, Reads s.heap v b.2 as) us ps
  | [], _, .nil, _ => ⟨.nil, .nil⟩
  | p :: ps, _, .cons r t, h => by
    obtain ⟨a, b⟩ := each_vals t fun q hq => h q (List.mem_cons_of_mem _ hq)
    exact ⟨.cons r a, .cons (h p (List.mem_cons_self ..) _ r) b⟩
theorem vals_each {us : List Value} {ps : List VD} (h : EachIs (fun v (b : VD) => RelV b.1 v) us ps) : Vals (ps.map (·.1)) us := by
  induction h with
  | nil => exact .nil
  | cons e _ ih => exact .cons e ih
theorem cr_sortedD (hu : X.A.units + 64 < cLine) : CallR X (.builtin "sorted") (rSortedD X.K) := by
  intro pins s σ H vs us Q I r h
  obtain ⟨a, ps, rfl, ha, hp, al, so, q⟩ := h
  rw [Vals.ref1 r]
  obtain ⟨its, rv, pl, hz⟩ := I.list ha
  obtain ⟨e1, e2⟩ := each_vals (s := s) rv fun p hpm u ru => Dp.reads I p.2 p.1 u (hp p hpm).1 ru
  refine sorted_data (enc := fun p : VD => p.2) (bs := ps) (R := fun v b => RelV b.1 v) pl.isList e1 e2 al so (by rwa [List.length_map] at hz) (fun p hpm => by have := (hp p hpm).2; show X.A.units + 2 + p.2.depth < cLine; omega) fun out lo eo => ?_
  have vo := vals_each eo
  generalize hq : ps.mergeSort (dataLe false fun p : VD => p.2) = qs at vo
  have pm : qs.Perm ps := hq ▸ List.mergeSort_perm _ _
  have pw : qs.Pairwise (fun x y => leD (fun p : VD => p.2) x y = true) := hq ▸ sorted_le _ _
  obtain ⟨c, hc⟩ := sortedAll_at s.heap its (List.toArray out)
  have len : (qs.map (·.1)).length ≤ sizeLine := by rw [List.length_map, pm.length_eq]; rwa [List.length_map] at hz
  have fresh : H (s.heap.objs.size + 1) = none := I.hok.fresh (Nat.le_succ _)
  have old : ∀ b o, s.heap.get? b = some o → (sortedAll s.heap its (List.toArray out)).get? b = some o := fun b o e => sortedAll_old e
  exact ⟨.ref _, upd H (s.heap.objs.size + 1) (.lst (qs.map (·.1))), I.laid (t' := s.toks) old (Nat.le_succ _) ⟨len, out, c, vo, hc⟩, rfl, q _ qs fresh pm pw⟩
end
end Kn


namespace Kn
open PySem PySem.Spec PyProof.Rows L2
def addP (g : Pg) (acc ts : List (Str × Int)) : List (Str × Int) := ts.foldl (fun acc t => if decide (t ∉ acc) && canB g t.1 t.2 then acc ++ [t] else acc) acc
def bfs (g : Pg) : Nat → Nat → List (Str × Int) → List (Str × Int)
  | 0, _, fs => fs
  | k + 1, t, fs => match fs[t]? with
    | none => fs
    | some s => bfs g k (t + 1) (addP g fs (lvOf g s))
def firstF (g : Pg) (p : Int) : List (Str × Int) := if canB g g.asks p then [(g.asks, p)] else []
/-- the pairs that a plan may hold -/
def foundP (g : Pg) (p : Int) : List (Str × Int) := bfs g 28 0 (firstF g p)
structure GoodF (g : Pg) (p : Int) (fs : List (Str × Int)) : Prop where
  nd : fs.Nodup
  all : ∀ s ∈ fs, (rowOf g s.1).isSome = true ∧ canB g s.1 s.2 = true ∧ 1 ≤ s.2 ∧ s.2 ≤ p
theorem can_is {g : Pg} {n : Str} {m : Int} (h : canB g n m = true) : ∃ e, rowOf g n = some e ∧ e.has = false ∧ e.fee ≤ m := by
  unfold canB at h
  cases z : rowOf g n with
  | none => rw [z] at h; cases h
  | some e =>
    rw [z] at h
    have h : (!e.has && decide (e.fee ≤ m)) = true := h
    rw [Bool.and_eq_true] at h
    exact ⟨e, rfl, by simpa using h.1, of_decide_eq_true h.2⟩
theorem can_pos {g : Pg} (G : GW g) {n : Str} {m : Int} (h : canB g n m = true) : 1 ≤ m := by
  obtain ⟨e, he, _, hf⟩ := can_is h
  have := (G.fee e (row_is he).1).1
  omega
theorem lv_known {g : Pg} (G : GW g) {s t : Str × Int} (h : t ∈ lvOf g s) : (rowOf g t.1).isSome = true ∧ t.2 < s.2 := by
  unfold lvOf at h
  cases z : rowOf g s.1 with
  | none => rw [z] at h; cases h
  | some e =>
    rw [z] at h
    obtain ⟨k, hk, rfl⟩ := List.mem_map.mp h
    obtain ⟨e', he'⟩ := row_tab G z hk
    refine ⟨by rw [he']; rfl, ?_⟩
    have := (G.fee e (row_is z).1).1
    show s.2 - e.fee < s.2
    omega
theorem lv_low {g : Pg} (G : GW g) {s t : Str × Int} (h : t ∈ lvOf g s) : s.2 - 9 ≤ t.2 := by
  unfold lvOf at h
  cases z : rowOf g s.1 with
  | none => rw [z] at h; cases h
  | some e =>
    rw [z] at h
    obtain ⟨k, hk, rfl⟩ := List.mem_map.mp h
    have := (G.fee e (row_is z).1).2
    show s.2 - 9 ≤ s.2 - e.fee
    omega
theorem addP_len {g : Pg} : ∀ {ts fs : List (Str × Int)}, fs.length ≤ (addP g fs ts).length
  | [], _ => Nat.le_refl _
  | t :: ts, fs => by
    show fs.length ≤ (addP g (if decide (t ∉ fs) && canB g t.1 t.2 then fs ++ [t] else fs) ts).length
    refine Nat.le_trans ?_ addP_len
    split
    · rw [List.length_append]
      exact Nat.le_add_right _ _
    · exact Nat.le_refl _
theorem addP_snoc {g : Pg} {acc ts : List (Str × Int)} {j : Nat} {t : Str × Int} (h : ts[j]? = some t) : addP g acc (ts.take (j + 1)) = if decide (t ∉ addP g acc (ts.take j)) && canB g t.1 t.2 then addP g acc (ts.take j) ++ [t] else addP g acc (ts.take j) := by
  unfold addP
  rw [List.take_add_one, h, List.foldl_append]
  rfl
theorem GoodF.one {g : Pg} (G : GW g) {p : Int} {fs : List (Str × Int)} (h : GoodF g p fs) {t : Str × Int} (k : (rowOf g t.1).isSome = true) (le : t.2 ≤ p) : GoodF g p (if decide (t ∉ fs) && canB g t.1 t.2 then fs ++ [t] else fs) := by
  by_cases z : (decide (t ∉ fs) && canB g t.1 t.2) = true
  · rw [if_pos z]
    rw [Bool.and_eq_true] at z
    have nt := of_decide_eq_true z.1
    refine ⟨List.nodup_append.mpr ⟨h.nd, by simp, fun a ha b hb e => ?_⟩, fun s hs => ?_⟩
    · have := List.mem_singleton.mp hb
      exact nt (this ▸ e ▸ ha)
    · rcases List.mem_append.mp hs with hs | hs
      · exact h.all s hs
      · obtain rfl := List.mem_singleton.mp hs
        exact ⟨k, z.2, can_pos G z.2, le⟩
  · rw [if_neg z]
    exact h
theorem GoodF.add {g : Pg} (G : GW g) {p : Int} : ∀ {ts fs : List (Str × Int)}, GoodF g p fs → (∀ t ∈ ts, (rowOf g t.1).isSome = true ∧ t.2 ≤ p) → GoodF g p (addP g fs ts)
  | [], _, h, _ => h
  | t :: ts, fs, h, k => GoodF.add G (ts := ts) (h.one G (k t (List.mem_cons_self ..)).1 (k t (List.mem_cons_self ..)).2) fun x hx => k x (List.mem_cons_of_mem _ hx)
theorem GoodF.left {g : Pg} (G : GW g) {p : Int} {fs : List (Str × Int)} (h : GoodF g p fs) {s : Str × Int} (hs : s ∈ fs) : ∀ t ∈ lvOf g s, (rowOf g t.1).isSome = true ∧ t.2 ≤ p := fun t ht => by
  have z := lv_known G ht
  have := (h.all s hs).2.2.2
  exact ⟨z.1, by omega⟩
theorem nodup_sub {α : Type} [DecidableEq α] : ∀ {xs ys : List α}, xs.Nodup → (∀ x ∈ xs, x ∈ ys) → xs.length ≤ ys.length
  | [], _, _, _ => Nat.zero_le _
  | x :: xs, ys, nd, h => by
    have hx := h x (List.mem_cons_self ..)
    have nd' := List.nodup_cons.mp nd
    have l := List.length_erase_of_mem hx
    have z := nodup_sub (ys := ys.erase x) nd'.2 fun y hy => (List.mem_erase_of_ne (fun e => nd'.1 (by rw [← e]; exact hy))).mpr (h y (List.mem_cons_of_mem _ hy))
    have : 0 < ys.length := List.length_pos_of_mem hx
    rw [List.length_cons]
    omega
theorem flat_len {α β : Type} {f : α → List β} {n : Nat} : ∀ {xs : List α}, (∀ x ∈ xs, (f x).length = n) → (xs.flatMap f).length = xs.length * n
  | [], _ => by simp
  | x :: xs, h => by
    rw [List.flatMap_cons, List.length_append, h x (List.mem_cons_self ..), flat_len fun y hy => h y (List.mem_cons_of_mem _ hy), List.length_cons, Nat.succ_mul]
    omega
theorem GoodF.few {g : Pg} (G : GW g) {p : Int} {fs : List (Str × Int)} (p6 : p ≤ 6) (h : GoodF g p fs) : fs.length ≤ 28 := by
  have z := nodup_sub (ys := g.es.flatMap fun e => (List.range 7).map fun i : Nat => (e.name, ((i : Nat) : Int))) h.nd fun s hs => by
    obtain ⟨k, _, lo, hi⟩ := h.all s hs
    obtain ⟨e, he⟩ := Option.isSome_iff_exists.mp k
    obtain ⟨em, en⟩ := row_is he
    refine List.mem_flatMap.mpr ⟨e, em, List.mem_map.mpr ⟨s.2.toNat, List.mem_range.mpr (by omega), ?_⟩⟩
    exact Prod.ext en (by show ((s.2.toNat : Nat) : Int) = s.2; omega)
  rw [flat_len (n := 7) fun e _ => by rw [List.length_map, List.length_range]] at z
  have := G.few
  omega
theorem GoodF.first {g : Pg} (G : GW g) {p : Int} : GoodF g p (firstF g p) := by
  unfold firstF
  cases z : canB g g.asks p
  · exact ⟨List.nodup_nil, fun _ h => by cases h⟩
  · rw [if_pos rfl]
    refine ⟨by simp, fun s hs => ?_⟩
    obtain rfl := List.mem_singleton.mp hs
    exact ⟨mem_rows.mp G.asks, z, can_pos G z, Int.le_refl _⟩
theorem GoodF.bfs {g : Pg} (G : GW g) {p : Int} : ∀ {k t : Nat} {fs : List (Str × Int)}, GoodF g p fs → GoodF g p (bfs g k t fs)
  | 0, _, _, h => h
  | k + 1, t, fs, h => by
    unfold Kn.bfs
    cases z : fs[t]? with
    | none => exact h
    | some s => exact GoodF.bfs G (h.add G (h.left G (List.mem_of_getElem? z)))
theorem found_good {g : Pg} (G : GW g) {p : Int} : GoodF g p (foundP g p) := GoodF.bfs G (GoodF.first G)
def Asc (qs : List (Str × Int)) : Prop := qs.Pairwise fun s t => PySem.W.dataLt (dPr s) (dPr t) = true
theorem lt_of_le {s t : Str × Int} (h : PySem.W.dataLt (dPr t) (dPr s) = false) (ne : s ≠ t) : PySem.W.dataLt (dPr s) (dPr t) = true := by
  cases z : PySem.W.dataLt (dPr s) (dPr t) with
  | true => rfl
  | false =>
    have e : PySem.W.keyToks (dPr s) = PySem.W.keyToks (dPr t) := PyProof.Rows.lex_total _ _ z h
    have ks : ∀ u : Str × Int, PySem.W.keyToks (dPr u) = [.inl 1, .inr u.1.cps.toList, .inl 1, .inl u.2, .inl 0] := fun u => rfl
    rw [ks, ks] at e
    injection e with _ e
    injection e with e1 e
    injection e with _ e
    injection e with e2 _
    refine absurd (Prod.ext ?_ (Sum.inl.inj e2)) ne
    have e1 := Sum.inr.inj e1
    obtain ⟨⟨⟨a⟩⟩, m⟩ := s
    obtain ⟨⟨⟨b⟩⟩, n⟩ := t
    have e1 : a = b := e1
    rw [e1]
theorem asc_of {cs : List (V × (Str × Int))} (pw : (cs.map fun c => (c.1, dPr c.2)).Pairwise fun x y => leD (fun p : VD => p.2) x y = true) (nd : (cs.map (·.2)).Nodup) : Asc (cs.map (·.2)) := by
  have h1 := List.pairwise_map.mp pw
  have h2 := List.pairwise_map.mp (show (cs.map (·.2)).Pairwise (· ≠ ·) from nd)
  refine List.pairwise_map.mpr ((h1.and h2).imp fun {x y} h => lt_of_le ?_ h.2)
  have z : (!PySem.W.dataLt (dPr y.2) (dPr x.2)) = true := h.1
  simpa using z
def spLp (K : PySem.W.Frag) : Sp := fun vs H Q _ => ∃ (w : V) (g : Pg) (p : Int), vs = [w, .int p] ∧ PgAt K H w g ∧ GW g ∧ 0 ≤ p ∧ p ≤ 6 ∧
  ∀ (q : Addr) (ys : List V) (qs : List (Str × Int)) (H' : Hp), Same H H' → H' q = some (.tup ys) → PrsAt H' ys qs → qs.Perm (foundP g p) → Asc qs → Q (.ref q) H'
theorem if_rest {c : Bool} {A B : Prop} {R : Hp → Prop} (S : Hp → Prop) (ha : c = true → (∀ G, S G → R G) → A) (hb : c = false → (∀ G, S G → R G) → B) (r : ∀ G, S G → R G) : (if c = true then A else B) := by
  cases c
  · exact iteF (hb rfl r)
  · exact iteT (ha rfl r)
theorem pr_alike : ∀ ss : List (Str × Int), PySem.W.AllAlike (ss.map dPr) := fun ss d hd d' hd' => by
  obtain ⟨s, _, rfl⟩ := List.mem_map.mp hd
  obtain ⟨s', _, rfl⟩ := List.mem_map.mp hd'
  rfl
theorem pr_sortable (ss : List (Str × Int)) : PySem.W.Sortable (ss.map dPr) := .inl fun d hd => by
  obtain ⟨s, _, rfl⟩ := List.mem_map.mp hd
  exact ⟨_, _, rfl⟩
theorem prs_zip {H : Hp} : ∀ {vs : List V} {ss : List (Str × Int)}, PrsAt H vs ss → ∃ cs : List (V × (Str × Int)), cs.map (·.1) = vs ∧ cs.map (·.2) = ss ∧ ∀ c ∈ cs, PrAt H c.1 c.2
  | _, _, .nil => ⟨[], rfl, rfl, fun _ h => by cases h⟩
  | _, _, .cons (v := v) (s := s) a b => by
    obtain ⟨cs, e1, e2, h⟩ := prs_zip b
    refine ⟨(v, s) :: cs, by rw [List.map_cons, e1], by rw [List.map_cons, e2], fun c hc => ?_⟩
    rcases List.mem_cons.mp hc with rfl | hc
    · exact a
    · exact h c hc
theorem prs_of_cs {H : Hp} : ∀ {cs : List (V × (Str × Int))}, (∀ c ∈ cs, PrAt H c.1 c.2) → PrsAt H (cs.map (·.1)) (cs.map (·.2))
  | [], _ => .nil
  | c :: cs, h => .cons (h c (List.mem_cons_self ..)) (prs_of_cs fun x hx => h x (List.mem_cons_of_mem _ hx))
theorem prs_lay {ss : List (Str × Int)} (h : ∀ s ∈ ss, goodD (dPr s) = true) : PyData.canLayAll0 (ss.map dPr) = true := by
  have z : goodDs (ss.map dPr) = true := by
    induction ss with
    | nil => rfl
    | cons s ss ih =>
      show (goodD (dPr s) && goodDs (ss.map dPr)) = true
      rw [h s (List.mem_cons_self ..), ih fun x hx => h x (List.mem_cons_of_mem _ hx)]
      rfl
  exact good_lay (.list (ss.map dPr)) z
section
variable {P : Program} {w : World} {K : PySem.W.Frag} {mg : Str → Option Value} {base : Heap}
end
end Kn


namespace Kn
open PySem PySem.Spec PyProof.Rows L2
abbrev nLd : List Str := ["_law_book", "_law_some", "_law_duo", "_law_own"]
abbrev nLi : List Str := ["_law_book", "_law_power", "_law_some", "_law_ask", "_law_loose", "_law_duo"]
/-- a comprehension with a filter over pairs -/
theorem lc_prs {K : PySem.W.Frag} {a : Addr} {xs : List V} {ps : List (Str × Int)} {slot : Nat} {tl : TE} {tt : TT} {vs : List Nat} {σ : L2.St} {H : Hp} {Q : VK} (c : Str × Int → Bool) (hT : SqT K H a xs) (hd : DpAll K H xs (ps.map dPr)) (few : ps.length ≤ 1000)
    (htl : ∀ R : VK, R (.ref a) H → tl σ H R) (w : ∀ v, wipe ((wipe σ vs).set slot (some v)) vs = wipe σ vs) (get : ∀ v, ((wipe σ vs).set slot (some v))[slot]? = some (some v))
    (test : ∀ (x : V) (s : Str × Int) (G : Hp) (R : Bool → Hp → Prop), s ∈ ps → Dp K G x (dPr s) → Same H G → (∀ G', Same G G' → R (c s) G') → tt ((wipe σ vs).set slot (some x)) G R)
    (done : ∀ (D : Addr) (acc : List V) (G : Hp), H D = none → Same H G → G D = some (.lst acc) → DpAll K H acc ((ps.filter c).map dPr) → Q (.ref D) G) : tLc (iTup K tl) (gName slot) tt (tVar slot) vs σ H Q := by
  refine htl _ ⟨a, rfl, ⟨xs, hT⟩, fun D nD => ?_⟩
  have lx : xs.length = ps.length := by rw [dsLen hd, List.length_map]
  refine lc_tup (K := K) (a := a) (xs := xs) (fun i G => Same H G ∧ ∃ acc, G D = some (.lst acc) ∧ acc.length ≤ i ∧ DpAll K H acc (((ps.take i).filter c).map dPr)) ⟨same_new nD, [], upd_same, Nat.le_refl _, .nil⟩ (fun i G _ h => tupS h.1 hT) ?_ ?_
  · rintro i x G hx ⟨sm, acc, eD, la, hacc⟩
    have hi : i < xs.length := (List.getElem?_eq_some_iff.mp hx).1
    obtain ⟨d, hdi, dp⟩ := dsAt hd i x hx
    obtain ⟨s, hs, rfl⟩ := map_get hdi
    refine ⟨w x, ?_⟩
    refine test x s G _ (List.mem_of_getElem? hs) (dKeep sm dp) sm fun G' s' => ?_
    have tk : ps.take (i + 1) = ps.take i ++ [s] := by rw [List.take_add_one, hs]; rfl
    cases z : c s
    · refine iteF ⟨sm.trans s', acc, s' _ _ eD, by omega, ?_⟩
      rw [tk, List.filter_append, List.filter_cons, z]
      simpa using hacc
    · refine iteT ⟨x, get x, acc, s' _ _ eD, small' (by omega), putS (sm.trans s') nD, acc ++ [x], upd_same, by rw [List.length_append]; show acc.length + 1 ≤ _; omega, ?_⟩
      rw [tk, List.filter_append, List.filter_cons, z, List.map_append]
      exact dsApp hacc (.cons dp .nil)
  · rintro G ⟨sm, acc, eD, la, hacc⟩
    rw [lx, List.take_length] at hacc
    exact done D acc G nD sm eD hacc
def okP (g : Pg) (s : Str × Int) : Prop := (rowOf g s.1).isSome = true ∧ s.2.natAbs < 900
theorem okP_good {g : Pg} (G : GW g) {s : Str × Int} (h : okP g s) : goodD (dPr s) = true := by
  obtain ⟨e, he⟩ := Option.isSome_iff_exists.mp h.1
  obtain ⟨em, en⟩ := row_is he
  exact pr_good (en ▸ G.nm e em) (by have := h.2; omega)
theorem okP_left {g : Pg} (G : GW g) {s t : Str × Int} (h : okP g s) (ht : t ∈ lvOf g s) : goodD (dPr t) = true := by
  have k := lv_known G ht
  have l := lv_low G ht
  obtain ⟨e, he⟩ := Option.isSome_iff_exists.mp k.1
  obtain ⟨em, en⟩ := row_is he
  exact pr_good (en ▸ G.nm e em) (by have := h.2; omega)
theorem dp_lst {K : PySem.W.Frag} {H : Hp} {l : Addr} {xs : List V} {ds : List PyData} (e : H l = some (.lst xs)) (h : DpAll K H xs ds) : Dp K H (.ref l) (.list ds) := .lst (.inl (.inl e)) h
theorem prs_deep : ∀ ss : List (Str × Int), PyData.depthAll (ss.map dPr) ≤ 1
  | [] => Nat.zero_le _
  | s :: r => by
    show max (dPr s).depth (PyData.depthAll (r.map dPr)) ≤ 1
    have := prs_deep r
    have z : (dPr s).depth = 1 := rfl
    omega
theorem prs_goods {ss : List (Str × Int)} (h : ∀ s ∈ ss, goodD (dPr s) = true) : goodDs (ss.map dPr) = true := by
  induction ss with
  | nil => rfl
  | cons s ss ih =>
    show (goodD (dPr s) && goodDs (ss.map dPr)) = true
    rw [h s (List.mem_cons_self ..), ih fun x hx => h x (List.mem_cons_of_mem _ hx)]
    rfl
theorem prs_shaped {ss : List (Str × Int)} (h : ∀ s ∈ ss, goodD (dPr s) = true) : SeqAt.shaped (.list (ss.map dPr)) = true ∧ SeqAt.shaped (.tuple (ss.map dPr)) = true := by
  have d := prs_deep ss
  refine ⟨good_shaped (prs_goods h) ?_, good_shaped (prs_goods h) ?_⟩
  · have z : (PyData.list (ss.map dPr)).depth = PyData.depthAll (ss.map dPr) + 1 := rfl
    omega
  · have z : (PyData.tuple (ss.map dPr)).depth = PyData.depthAll (ss.map dPr) + 1 := rfl
    omega
theorem led_some {g : Pg} {ps : List (Str × Int)} {t : Str × Int} : (!((ps.filter fun o => decide (t ∈ lvOf g o)).map dPr).isEmpty) = decide (t ∈ lv g ps) := by
  by_cases h : t ∈ lv g ps
  · rw [decide_eq_true h]
    obtain ⟨s, hs, ht⟩ := List.mem_flatMap.mp h
    have z : s ∈ ps.filter fun o => decide (t ∈ lvOf g o) := List.mem_filter.mpr ⟨hs, decide_eq_true ht⟩
    cases e : ps.filter fun o => decide (t ∈ lvOf g o) with
    | nil => rw [e] at z; cases z
    | cons => rfl
  · rw [decide_eq_false h]
    have e : (ps.filter fun o => decide (t ∈ lvOf g o)) = [] := List.filter_eq_nil_iff.mpr fun s hs z => h (List.mem_flatMap.mpr ⟨s, hs, of_decide_eq_true z⟩)
    rw [e]
    rfl
def spLd (K : PySem.W.Frag) : Sp := fun vs H Q _ => ∃ (w v : V) (q : Addr) (g : Pg) (xs : List V) (ps : List (Str × Int)) (t : Str × Int), vs = [w, .ref q, v] ∧ PgAt K H w g ∧ GW g ∧ SqT K H q xs ∧ DpAll K H xs (ps.map dPr) ∧ ps.length ≤ 100 ∧ (∀ s ∈ ps, okP g s) ∧ Dp K H v (dPr t) ∧ okP g t ∧
  ∀ H', Same H H' → Q (.bl (decide (t ∈ lv g ps))) H'
def lawP (g : Pg) (p : Int) (ps : List (Str × Int)) : Bool := if canB g g.asks p then decide ((g.asks, p) ∈ ps) && ledP g (g.asks, p) ps else decide (ps = [])
def spLi (K : PySem.W.Frag) : Sp := fun vs H Q _ => ∃ (w : V) (q : Addr) (g : Pg) (p : Int) (xs : List V) (ps : List (Str × Int)), vs = [w, .int p, .ref q] ∧ PgAt K H w g ∧ GW g ∧ p.natAbs < 900 ∧ SqT K H q xs ∧ DpAll K H xs (ps.map dPr) ∧ ps.length ≤ 100 ∧ (∀ s ∈ ps, okP g s) ∧
  ∀ H', Same H H' → Q (.bl (lawP g p ps)) H'
section
variable {P : Program} {w : World} {K : PySem.W.Frag} {mg : Str → Option Value} {base : Heap}
end
end Kn


/-! Kn: a comprehension with a filter, what comes out told item by item. -/
namespace Kn
open PySem PySem.Spec PyProof.Rows L2
theorem lc_sel {α : Type} {J : It} {xs : List V} {Gd : Hp → Prop} (w : Walk J xs.length Gd (YAt xs)) {g : TG} {tt : TT} {te : TE} {vs : List Nat} {σ : L2.St} {H1 : Hp} {D : Addr} {Qd : Hp → Prop} (as : List α) (out : α → Option V) (nD : H1 D = none) (hl : as.length = xs.length) (few : xs.length ≤ 100000) (st : ∀ G, Same H1 G → Gd G)
    (turn : ∀ (i : Nat) (x : V) (s : α) (G : Hp) (N : Hp → Prop) (Y : V → Hp → Prop), xs[i]? = some x → as[i]? = some s → Same H1 G → (∀ G', Same G G' → out s = none → N G') → (∀ v G', Same G G' → out s = some v → Y v G') →
      g x (wipe σ vs) G fun σ2 H2 => wipe σ2 vs = wipe σ vs ∧ tt σ2 H2 fun b H3 => if b = true then te σ2 H3 Y else N H3)
    (done : ∀ G, Same H1 G → G D = some (.lst (as.filterMap out)) → Qd G) :
    ∃ W : Nat → Nat → Hp → Prop, (∃ m, W 0 m (upd H1 D (.lst []))) ∧ ∀ i m H, W i m H →
      (J.stop i H ∧ Qd H) ∨ (J.go i H ∧ ∃ Nx : Hp → Prop, (∀ H', Nx H' → ∃ m', m' < m ∧ W (i + 1) m' H') ∧ ∀ x H', J.yld i H x H' → g x (wipe σ vs) H' fun σ2 H2 => wipe σ2 vs = wipe σ vs ∧ tt σ2 H2 fun b H3 =>
        if b = true then te σ2 H3 fun y H4 => ∃ acc, H4 D = some (.lst acc) ∧ acc.length < sizeLine ∧ Nx (upd H4 D (.lst (acc ++ [y]))) else Nx H3) := by
  refine lc_it w (fun i G => Same H1 G ∧ G D = some (.lst ((as.take i).filterMap out))) ⟨same_new nD, upd_same⟩ (fun i G _ h => st G h.1) ?_ ?_
  · rintro i x G G0 hi ⟨sm, eD⟩ ⟨rfl, hx⟩
    have hs : as[i]? = some (as[i]'(by omega)) := List.getElem?_eq_getElem (by omega)
    generalize as[i]'(by omega) = s at hs
    have tk : as.take (i + 1) = as.take i ++ [s] := by rw [List.take_add_one, hs]; rfl
    have l1 : ((as.take i).filterMap out).length ≤ 100000 := by
      have := List.length_filterMap_le out (as.take i)
      rw [List.length_take] at this
      omega
    refine turn i x s G0 _ _ hx hs sm (fun G' s' ho => ⟨sm.trans s', ?_⟩) (fun v G' s' ho => ⟨_, s' _ _ eD, Nat.lt_of_le_of_lt l1 (by decide), putS (sm.trans s') nD, ?_⟩)
    · rw [s' _ _ eD, tk, List.filterMap_append, List.filterMap_cons_none ho]
      simp
    · rw [upd_same, tk, List.filterMap_append, List.filterMap_cons_some ho]
      rfl
  · rintro G ⟨sm, eD⟩
    rw [← hl, List.take_length] at eD
    exact done G sm eD
def rLenK (K : PySem.W.Frag) : List V → Hp → VK → Prop := fun xs H Q => ∃ (p : Addr) (ys : List V), xs = [V.ref p] ∧ (SqL K H p ys ∨ SqT K H p ys) ∧ Q (V.int ((ys.length : Nat) : Int)) H
theorem call_lenK {X : Cx} {K : PySem.W.Frag} (e : X.K = K) : CallR X (.builtin "len") (rLenK K) := by
  subst e
  exact call_len_seq
end Kn


namespace Kn
open PySem PySem.Spec PyProof.Rows L2
theorem seq_mid {t u : L2.TS} {D : Ends} {σ : L2.St} {H : Hp} (S : L2.St → Hp → Prop) (rest : ∀ σ' H', S σ' H' → u D σ' H') (body : ∀ R : L2.St → Hp → Prop, (∀ σ' H', S σ' H' → R σ' H') → t { D with nx := R } σ H) : tSeq t u D σ H := body _ rest
theorem asg_seq {te : TE} {gt : TG} {u : L2.TS} {D : Ends} {σ : L2.St} {H : Hp} (h : te σ H fun x H1 => gt x σ H1 (u D)) : tSeq (tAsg te gt) u D σ H := h
abbrev nLk : List Str := ["_law_net", "_law_title", "_law_own"]
theorem scLk : FnScope nLk ["_law_net", "_law_title"] (defScope (topS 24)) := ⟨rfl, rfl, rfl, by decide +kernel, rfl, by decide +kernel, by decide +kernel⟩
abbrev nLc : List Str := ["_law_net", "_law_pair", "_law_own"]
theorem scLc : FnScope nLc ["_law_net", "_law_pair"] (defScope (topS 25)) := ⟨rfl, rfl, rfl, by decide +kernel, rfl, by decide +kernel, by decide +kernel⟩
abbrev nLl : List Str := ["_law_net", "_law_pair"]
theorem scLl : FnScope nLl ["_law_net", "_law_pair"] (defScope (topS 26)) := ⟨rfl, rfl, rfl, by decide +kernel, rfl, by decide +kernel, by decide +kernel⟩
abbrev nLp : List Str := ["_law_net", "_law_power", "_law_found", "_law_k", "_law_left_here", "_law_title", "_law_pair"]
theorem scLp : FnScope nLp ["_law_net", "_law_power"] (defScope (topS 27)) := ⟨rfl, rfl, rfl, by decide +kernel, rfl, by decide +kernel, by decide +kernel⟩
def spLl (K : PySem.W.Frag) : Sp := fun vs H Q _ => ∃ (w v : V) (g : Pg) (s : Str × Int) (e : Ent), vs = [w, v] ∧ PgAt K H w g ∧ g.es.length ≤ 1000 ∧ Dp K H v (dPr s) ∧ rowOf g s.1 = some e ∧ ∀ (H' : Hp), Same H H' → Q (.int (s.2 - e.fee)) H'
def spLq (K : PySem.W.Frag) : Sp := fun vs H Q _ => ∃ (w : V) (g : Pg) (p : Int), vs = [w, .int p] ∧ PgAt K H w g ∧ GW g ∧ 0 ≤ p ∧ p ≤ 6 ∧
  ∀ (q : Addr) (ys : List V) (H' : Hp), Same H H' → H q = none → H' q = some (.lst ys) → PrsAt H' ys (foundP g p) → Q (.ref q) H'
section
variable {P : Program} {w : World} {K : PySem.W.Frag} {mg : Str → Option Value} {base : Heap}
theorem ok_lk {f : Addr} {fd : FuncData} (F : Fun K "_law_row" "_law_row" (topS 24) f fd) : FnOk P w K mg base CX0 1 f fd ["_law_net", "_law_title"] (spLk K) := by
  refine F.ok scLk (fun vs H Q E h => ?_) (fun cdv A outer s H vs Q E hr h => ?_)
  · obtain ⟨v, g, n, e, rfl, _⟩ := h
    rfl
  · obtain ⟨v, g, x, e, rfl, ⟨p, r, ws, rfl, hp, hr', hE⟩, few, he, q⟩ := h
    have lw := hE.len
    refine ⟨_, (pss_one (ps_ret (pe_ix ix_list (pe_lc (own := [("_law_own", 2)]) (g := gName 2) (by rfl) scLk.nd (pi_tup (pe_ix ix_tup (pv 0) pe_int (fun _ _ => rfl))) (blkOk_by (own := [("_law_own", 2)]) (N := nLk) (sc := defScope (topS 24)) (by decide +kernel)) (fun _ _ _ _ _ => (pg_name (i := 2) scLk.nd rfl (Or.inl rfl))) (fun _ _ _ _ _ => (pts_one (pt_cmpR op_eq (pe_ix (r := rIxT K) ix_tup (pv 2) pe_int (fun _ _ => rfl)) (pv 1) (nomark _)))) (fun _ _ _ _ _ => (pv 2))) pe_int (fun _ _ => rfl)))), ?_⟩
    obtain ⟨r0, rest, hl, hv0⟩ := pick1 (H := H) (x := x) hE he
    dsimp only [tRet, tOp]
    refine lc_pickT (a := r) (xs := ws) ((ws.zip g.es).map fun p => (decide (p.2.name = x), p.1)) (by simp; omega) (by omega) hr' (fun R k => ⟨.ref p, rfl, p, _, 0, .ref r, rfl, rfl, hp, atI_nat (j := 0) rfl, k⟩) (fun v => rfl) ?_ ?_ ?_
    · intro i y b z G R hx hy sm k
      obtain ⟨o, ho, hv⟩ := hE.get hx
      obtain ⟨⟨y', o'⟩, hz, ey⟩ := map_get hy
      obtain ⟨hx', ho'⟩ := List.getElem?_zip_eq_some.mp hz
      obtain rfl : y = y' := Option.some.inj (hx.symm.trans hx')
      obtain rfl : o = o' := Option.some.inj (ho.symm.trans ho')
      cases ey
      obtain ⟨p2, r2, rfl, hp2, hr2⟩ := hv.same sm
      refine ⟨.ref p2, rfl, p2, _, 0, _, rfl, rfl, hp2, atI_nat (j := 0) rfl, _, rfl, rfl, _, rfl, ?_⟩
      have e2 : decide (V.str o.name = V.str x) = decide (o.name = x) := by
        by_cases z : o.name = x
        · rw [decide_eq_true z, decide_eq_true (congrArg V.str z)]
        · rw [decide_eq_false z, decide_eq_false (fun y => z (V.str.inj y))]
      rw [e2]
      exact k
    · intro i y b z G R hx hy sm k
      obtain ⟨⟨y', o'⟩, hz, ey⟩ := map_get hy
      obtain ⟨hx', ho'⟩ := List.getElem?_zip_eq_some.mp hz
      obtain rfl : y = y' := Option.some.inj (hx.symm.trans hx')
      cases ey
      exact ⟨_, rfl, k⟩
    · intro D G nD sm hD
      rw [hl] at hD
      exact ⟨D, _, 0, r0, rfl, rfl, .inl (.inl hD), atI_nat (j := 0) rfl, q r0 G sm (hv0.same sm)⟩
theorem ok_lc {f fK : Addr} {fd fdK : FuncData} (F : Fun K "_law_sends" "_law_sends" (topS 25) f fd) (Ki : Def K mg "_law_row" 24 ["_law_net", "_law_title"] fK fdK) (OK : FnOk P w K mg base CX0 1 fK fdK ["_law_net", "_law_title"] (spLk K)) :
    FnOk P w K mg base CX0 2 f fd ["_law_net", "_law_pair"] (spLc K) := by
  refine F.ok scLc (fun vs H Q E h => ?_) (fun cdv A outer s H vs Q E hr h => ?_)
  · obtain ⟨w0, v, g, s, rfl, _⟩ := h
    rfl
  · obtain ⟨w0, v, g, s0, rfl, pg, few, hd, hs, q⟩ := h
    obtain ⟨e, he⟩ := Option.isSome_iff_exists.mp hs
    obtain ⟨b, rfl, hb⟩ := pr_seq hd
    refine ⟨_, (pss_cons (ps_set (i := 2) scLc.nd rfl (.inl rfl) (pe_call OK hr (by rfl) Ki.m Ki.F.kp Ki.b .nil pass0 (pa_cons (pv 0) (pa_cons (pe_ix ix_tup (pv 1) pe_int (fun _ _ => rfl)) pa_nil))))
      (pss_one (ps_ret (pe_and (pe_not (pe_ix ix_tup (pv 2) pe_int (fun _ _ => rfl))) (pe_one (pe_cmpR op_ge (pe_ix ix_tup (pv 1) pe_int (fun _ _ => rfl)) (pe_ix ix_tup (pv 2) pe_int (fun _ _ => rfl)) (nomark _))))))), ?_⟩
    refine ⟨w0, rfl, .ref b, rfl, b, _, 0, .str s0.1, rfl, rfl, hb, atI_nat (j := 0) rfl, w0, g, s0.1, e, rfl, pg, few, he, fun r H1 s1 hv => ?_⟩
    obtain ⟨pe, qe, rfl, hpe, hqe⟩ := id hv
    have ec : canB g s0.1 s0.2 = (!e.has && decide (e.fee ≤ s0.2)) := by
      unfold canB
      rw [he]
    rw [ec] at q
    refine ⟨.ref pe, rfl, pe, _, 2, .bl e.has, rfl, rfl, hpe, atI_nat (j := 2) rfl, e.has, rfl, _, rfl, ?_⟩
    have y := q H1 s1
    cases hh : e.has
    · rw [hh] at y
      exact iteT ⟨.ref b, rfl, b, _, 1, .int s0.2, rfl, rfl, tupS s1 hb, atI_nat (j := 1) rfl, .ref pe, rfl, pe, _, 1, .int e.fee, rfl, rfl, hpe, atI_nat (j := 1) rfl, s0.2, e.fee, rfl, rfl, y⟩
    · rw [hh] at y
      exact iteF y
theorem ok_ll {f fK : Addr} {fd fdK : FuncData} (F : Fun K "_law_left" "_law_left" (topS 26) f fd) (Ki : Def K mg "_law_row" 24 ["_law_net", "_law_title"] fK fdK) (OK : FnOk P w K mg base CX0 1 fK fdK ["_law_net", "_law_title"] (spLk K)) :
    FnOk P w K mg base CX0 2 f fd ["_law_net", "_law_pair"] (spLl K) := by
  refine F.ok scLl (fun vs H Q E h => ?_) (fun cdv A outer s H vs Q E hr h => ?_)
  · obtain ⟨w0, v, g, s, e, rfl, _⟩ := h
    rfl
  · obtain ⟨w0, v, g, s0, e, rfl, pg, few, hd, he, q⟩ := h
    obtain ⟨b, rfl, hb⟩ := pr_seq hd
    refine ⟨_, (pss_one (ps_ret (pe_op op_sub (pe_ix ix_tup (pv 1) pe_int (fun _ _ => rfl)) (pe_ix ix_tup (pe_call OK hr (by rfl) Ki.m Ki.F.kp Ki.b .nil pass0 (pa_cons (pv 0) (pa_cons (pe_ix ix_tup (pv 1) pe_int (fun _ _ => rfl)) pa_nil))) pe_int (fun _ _ => rfl))))), ?_⟩
    refine ⟨.ref b, rfl, b, _, 1, .int s0.2, rfl, rfl, hb, atI_nat (j := 1) rfl, w0, rfl, .ref b, rfl, b, _, 0, .str s0.1, rfl, rfl, hb, atI_nat (j := 0) rfl, w0, g, s0.1, e, rfl, pg, few, he, fun r H1 s1 hv => ?_⟩
    obtain ⟨pe, qe, rfl, hpe, hqe⟩ := id hv
    exact ⟨pe, _, 1, .int e.fee, rfl, rfl, hpe, atI_nat (j := 1) rfl, s0.2, e.fee, rfl, rfl, q H1 s1⟩
theorem ok_lq {f fL fC fK : Addr} {fd fdL fdC fdK : FuncData} (F : Fun K "_law_pairs" "_law_pairs" (topS 27) f fd) (Ki : Def K mg "_law_row" 24 ["_law_net", "_law_title"] fK fdK) (OK : FnOk P w K mg base CX0 1 fK fdK ["_law_net", "_law_title"] (spLk K))
    (Le : Def K mg "_law_left" 26 ["_law_net", "_law_pair"] fL fdL) (OL : FnOk P w K mg base CX0 2 fL fdL ["_law_net", "_law_pair"] (spLl K))
    (Cs : Def K mg "_law_sends" 25 ["_law_net", "_law_pair"] fC fdC) (OC : FnOk P w K mg base CX0 2 fC fdC ["_law_net", "_law_pair"] (spLc K)) (ml : mg "len" = none) :
    FnOk P w K mg base CX0 3 f fd ["_law_net", "_law_power"] (spLq K) := by
  refine F.ok scLp (fun vs H Q E h => ?_) (fun cdv A outer s H vs Q E hr h => ?_)
  · obtain ⟨w0, g, p, rfl, _⟩ := h
    rfl
  · obtain ⟨w0, g, p, rfl, pg, G, p0, p6, q⟩ := h
    have hu := hr.units
    have few := G.few
    obtain ⟨pw, q0, ws, rfl, hpw, hq0, hE⟩ := id pg
    refine ⟨_, (pss_cons (ps_setLc (i := 2) (own := [("_law_pair", 6)]) (g := gName 6) (by rfl) scLp.nd rfl rfl (sw_true rfl rfl rfl (by decide +kernel)) (pi_list (pe_lst (pa_cons (pe_tup (pa_cons (pe_ix ix_tup (pv 0) pe_int (fun _ _ => rfl)) (pa_cons (pv 1) pa_nil))) pa_nil))) (blkOk_by (own := [("_law_pair", 6)]) (N := nLp) (sc := defScope (topS 27)) (by decide +kernel)) (fun _ _ _ _ _ => (pg_name (i := 6) scLp.nd rfl (Or.inl rfl))) (fun _ _ _ _ _ => (pts_one (pt_val (pe_call OC (hr.mono (by decide)) (by rfl) Cs.m Cs.F.kp Cs.b .nil pass0 (pa_cons (pv 0) (pa_cons (pv 6) pa_nil)))))) (fun _ _ _ _ _ => (pv 6)))
      (pss_cons (ps_set (i := 3) scLp.nd rfl (.inl rfl) pe_int)
      (pss_cons (ps_while PassesOwn.never (pt_cmpR op_lt (pv 3) (pe_callB call_len_seq (by rfl) ml PySem.boot_len (pa_cons (pv 2) pa_nil)) (nomark _)) (pss_cons (ps_set (i := 4) scLp.nd rfl (.inl rfl) (pe_call OL (hr.mono (by decide)) (by rfl) Le.m Le.F.kp Le.b .nil pass0 (pa_cons (pv 0) (pa_cons (pe_ix ix_list (pv 2) (pv 3) (fun _ _ => rfl)) pa_nil))))
      (pss_cons (ps_for PassesOwn.never rfl (pi_tup (pe_ix ix_tup (pe_call OK (hr.mono (by decide)) (by rfl) Ki.m Ki.F.kp Ki.b .nil pass0 (pa_cons (pv 0) (pa_cons (pe_ix ix_tup (pe_ix ix_list (pv 2) (pv 3) (fun _ _ => rfl)) pe_int (fun _ _ => rfl)) pa_nil))) pe_int (fun _ _ => rfl))) (pg_name (i := 5) scLp.nd rfl (.inl rfl)) (pss_one (ps_if (PW.pt (pw_and (pt_val (pe_call OC (hr.mono (by decide)) (by rfl) Cs.m Cs.F.kp Cs.b .nil pass0 (pa_cons (pv 0) (pa_cons (pe_tup (pa_cons (pv 5) (pa_cons (pv 4) pa_nil))) pa_nil)))) (pw_and1 (pt_cmpR (op_notInLD hu) (pe_tup (pa_cons (pv 5) (pa_cons (pv 4) pa_nil))) (pv 2) (by rfl))))) (pss_one (ps_expr (pe_bm PySem.F.plainAttrs_list PySem.F.slot_list_append PySem.F.type_list_append mt_append (pv 2) (pa_cons (pe_tup (pa_cons (pv 5) (pa_cons (pv 4) pa_nil))) pa_nil)))) pss_nil)))
      (pss_one (ps_set (i := 3) scLp.nd rfl (.inl rfl) (pe_op op_add (pv 3) pe_int))))))
      (pss_one (ps_ret (pv 2)))))), ?_⟩
    have askIn := mem_rows.mp G.asks
    have ask_nm : nameB (.str g.asks) = true := by
      obtain ⟨e, he, ee⟩ := List.mem_map.mp G.asks
      exact ee ▸ G.nm e he
    have kn_good : ∀ {t : Str × Int}, (rowOf g t.1).isSome = true → t.2.natAbs < 1000 → goodD (dPr t) = true := fun {t} k b => by
      obtain ⟨e, he⟩ := Option.isSome_iff_exists.mp k
      obtain ⟨em, en⟩ := row_is he
      exact pr_good (en ▸ G.nm e em) b
    refine asg_seq ⟨.ref pw, rfl, pw, _, 1, .str g.asks, rfl, rfl, hpw, atI_nat (j := 1) rfl, .int p, rfl, (show 2 ≤ sizeLine by decide), fun t nt => ⟨(show 1 ≤ sizeLine by decide), fun l0 nl0 => ⟨l0, rfl, ⟨_, .inl (.inl upd_same)⟩, fun L nL => ?_⟩⟩⟩
    have st : Same H (upd H t (.tup [.str g.asks, .int p])) := same_new nt
    have et : (upd H t (.tup [.str g.asks, .int p])) t = some (.tup [.str g.asks, .int p]) := upd_same
    have sl := same_new (o := .lst [.ref t]) nl0
    have el : (upd (upd H t (.tup [.str g.asks, .int p])) l0 (.lst [.ref t])) l0 = some (.lst [.ref t]) := upd_same
    have et1 := sl _ _ et
    have s01 := st.trans sl
    generalize upd (upd H t (.tup [.str g.asks, .int p])) l0 (.lst [.ref t]) = H1 at sl el et1 s01 nL ⊢
    have nL0 := s01.free nL
    refine lc_sel (walk_list (K := K) (a := l0) (xs := [.ref t])) [(g.asks, p)] (fun s => if canB g s.1 s.2 = true then some (.ref t) else none) nL rfl (by show 1 ≤ 100000; decide) (fun G0 s => .inl (.inl (s _ _ el))) ?_ ?_
    · intro i x s0 G0 N Y hx hs sm no yes
      cases i with
      | succ j => cases hx
      | zero =>
        cases hx
        cases hs
        refine ⟨rfl, .ref pw, rfl, .ref t, rfl, .ref pw, .ref t, g, (g.asks, p), rfl, pg.same (s01.trans sm), by omega, PrAt.dp ⟨t, rfl, sm _ _ et1⟩, askIn, fun G' s' => ⟨_, rfl, ?_⟩⟩
        cases z : canB g g.asks p
        · rw [z] at no
          exact iteF (no G' s' rfl)
        · rw [z] at yes
          exact iteT ⟨.ref t, rfl, yes _ G' s' rfl⟩
    intro H2 s2 eL
    have h2 : PrsAt H2 ([(g.asks, p)].filterMap fun s : Str × Int => if canB g s.1 s.2 = true then some (V.ref t) else none) (firstF g p) := by
      unfold firstF
      rw [List.filterMap_cons, List.filterMap_nil]
      dsimp only
      cases canB g g.asks p
      · exact .nil
      · exact .cons ⟨t, rfl, s2 _ _ et1⟩ .nil
    generalize ([(g.asks, p)].filterMap fun s : Str × Int => if canB g s.1 s.2 = true then some (V.ref t) else none) = acc0 at eL h2
    have s02 := s01.trans s2
    dsimp only [gName, List.set]
    refine ⟨fun m σ G => ∃ (tn : Nat) (y5 y6 : Option V) (acc : List V) (fs : List (Str × Int)) (y4 : Option V), m = 28 - tn ∧ σ = [some (.ref pw), some (.int p), some (.ref L), some (.int (tn : Nat)), y4, y5, y6] ∧ Same H G ∧ G L = some (.lst acc) ∧ PrsAt G acc fs ∧ GoodF g p fs ∧ bfs g (28 - tn) tn fs = foundP g p ∧ tn ≤ fs.length,
      ⟨28, 0, none, none, acc0, firstF g p, none, rfl, rfl, s02, eL, h2, GoodF.first G, rfl, Nat.zero_le _⟩, ?_⟩
    rintro m σ G2 ⟨tn, y5, y6, acc, fs, y4, rfl, rfl, s5, e5, h5, gd, eb, tl⟩
    have few := gd.few G p6
    have la := h5.len
    refine ⟨.int (tn : Nat), rfl, .ref L, rfl, L, acc, rfl, .inl (.inl (.inl e5)), (tn : Nat), (acc.length : Nat), rfl, rfl, _, rfl, ?_⟩
    by_cases lt : tn < fs.length
    · rw [decide_eq_true (show ((tn : Nat) : Int) < (acc.length : Nat) by omega)]
      refine iteT ⟨fun σ' H' => ∃ m', m' < 28 - tn ∧ ∃ (tn : Nat) (y5 y6 : Option V) (acc : List V) (fs : List (Str × Int)) (y4 : Option V), m' = 28 - tn ∧ σ' = [some (.ref pw), some (.int p), some (.ref L), some (.int (tn : Nat)), y4, y5, y6] ∧ Same H H' ∧ H' L = some (.lst acc) ∧ PrsAt H' acc fs ∧ GoodF g p fs ∧ bfs g (28 - tn) tn fs = foundP g p ∧ tn ≤ fs.length, fun σ' H' z => z, ?_⟩
      have hs : fs[tn]? = some (fs[tn]'lt) := List.getElem?_eq_getElem lt
      generalize fs[tn]'lt = s0 at hs
      have hx : acc[tn]? = some (acc[tn]'(by omega)) := List.getElem?_eq_getElem (by omega)
      generalize acc[tn]'(by omega) = x0 at hx
      obtain ⟨s', hs', pr⟩ := h5.get hx
      obtain rfl : s0 = s' := Option.some.inj (hs.symm.trans hs')
      have mem := List.mem_of_getElem? hs
      obtain ⟨e, he⟩ := Option.isSome_iff_exists.mp (gd.all s0 mem).1
      obtain ⟨b, rfl, hb⟩ := id pr
      have el0 : lvOf g s0 = e.row.map fun k => (k, s0.2 - e.fee) := by
        unfold lvOf
        rw [he]
      refine asg_seq ⟨.ref pw, rfl, .ref L, rfl, .int (tn : Nat), rfl, L, acc, (tn : Nat), _, rfl, rfl, .inl (.inl e5), atI_nat hx, .ref pw, _, g, s0, e, rfl, pg.same s5, by have := G.few; omega, pr.dp, he, fun G3 s6 => ?_⟩
      dsimp only [gName, List.set]
      have e6 := s6 _ _ e5
      refine ⟨.ref pw, rfl, .ref L, rfl, .int (tn : Nat), rfl, L, acc, (tn : Nat), _, rfl, rfl, .inl (.inl e6), atI_nat hx, b, _, 0, .str s0.1, rfl, rfl, .inl (.inl (s6 _ _ hb)), atI_nat (j := 0) rfl, .ref pw, g, s0.1, e, rfl, pg.same (s5.trans s6), by have := G.few; omega, he, fun r G4 s7 hv => ?_⟩
      obtain ⟨pe, qe, rfl, hpe, hqe⟩ := id hv
      have h6 := h5.ts (ts_same (s6.trans s7))
      have e7 := s7 _ _ e6
      have s57 := s5.trans (s6.trans s7)
      have known := gd.left G mem
      have low : ∀ t ∈ lvOf g s0, s0.2 - 9 ≤ t.2 := fun t h => lv_low G h
      have eb2 : bfs g (28 - (tn + 1)) (tn + 1) (addP g fs (lvOf g s0)) = foundP g p := by
        rw [← eb, show 28 - tn = (28 - (tn + 1)) + 1 by omega]
        show _ = (match fs[tn]? with | none => fs | some s => bfs g (28 - (tn + 1)) (tn + 1) (addP g fs (lvOf g s)))
        rw [hs]
      have lts : (lvOf g s0).length = e.row.length := by rw [el0, List.length_map]
      refine ⟨pe, _, 3, .ref qe, rfl, rfl, hpe, atI_nat (j := 3) rfl, qe, rfl, ⟨_, hqe⟩, ?_⟩
      refine for_it (walk_tup (K := K) (a := qe) (xs := e.row.map V.str)) (fun j σ G5 => ∃ y5 y6 acc', σ = [some (.ref pw), some (.int p), some (.ref L), some (.int (tn : Nat)), some (.int (s0.2 - e.fee)), y5, y6] ∧ Same H G5 ∧ TS G4 G5 ∧ G5 L = some (.lst acc') ∧ PrsAt G5 acc' (addP g fs ((lvOf g s0).take j)))
        ⟨_, _, acc, rfl, s57, TS.refl _, e7, h6⟩ (fun j σ G5 _ ⟨_, _, _, _, _, z, _⟩ => tupT z hqe) ?_ ?_
      · rintro j x σ G5 G6 hj ⟨y5, y6, acc', rfl, s8, t8, e8, h8⟩ ⟨rfl, hxj⟩
        obtain ⟨k, hk, rfl⟩ := map_get hxj
        have ht : (lvOf g s0)[j]? = some (k, s0.2 - e.fee) := by rw [el0, List.getElem?_map, hk]; rfl
        have gj : GoodF g p (addP g fs ((lvOf g s0).take j)) := gd.add G fun t h => known t (List.mem_of_mem_take h)
        have kn := known _ (List.mem_of_getElem? ht)
        have lw := low _ (List.mem_of_getElem? ht)
        have hb0 := (gd.all s0 mem).2.2
        have lj := gj.few G p6
        have lj2 := h8.len
        have sn := addP_snoc (g := g) (acc := fs) ht
        dsimp only [gName, List.set]
        refine ⟨.ref pw, rfl, .str k, rfl, .int (s0.2 - e.fee), rfl, (show 2 ≤ sizeLine by decide), fun t1 n1 => ?_⟩
        have s9 := s8.trans (same_new (o := .tup [.str k, .int (s0.2 - e.fee)]) n1)
        have ne1 : L ≠ t1 := ne_of_none e8 n1
        have t9 := t8.trans (ts_same (same_new (o := .tup [.str k, .int (s0.2 - e.fee)]) n1))
        have e9 : (upd G6 t1 (.tup [.str k, .int (s0.2 - e.fee)])) L = some (.lst acc') := (upd_ne ne1).trans e8
        have h9 := h8.ts (ts_same (same_new (o := .tup [.str k, .int (s0.2 - e.fee)]) n1))
        refine ⟨.ref pw, .ref t1, g, (k, s0.2 - e.fee), rfl, pg.same s9, by have := G.few; omega, PrAt.dp ⟨t1, rfl, upd_same⟩, kn.1, fun G7 s10 => ⟨_, rfl, ?_⟩⟩
        generalize upd G6 t1 (.tup [.str k, .int (s0.2 - e.fee)]) = G6' at s9 t9 e9 h9 s10
        have e10 := s10 _ _ e9
        have h10 := h9.ts (ts_same s10)
        have s11 := s9.trans s10
        have t11 := t9.trans (ts_same s10)
        cases zc : canB g k (s0.2 - e.fee)
        · rw [zc, Bool.and_false, if_neg Bool.false_ne_true] at sn
          refine iteF ?_
          refine iteF ⟨_, _, acc', rfl, s11, t11, e10, ?_⟩
          rw [sn]
          exact h10
        · rw [zc, Bool.and_true] at sn
          refine iteT ⟨.str k, rfl, .int (s0.2 - e.fee), rfl, (show 2 ≤ sizeLine by decide), fun t2 n2 => ?_⟩
          have sn2 := same_new (o := .tup [.str k, .int (s0.2 - e.fee)]) n2
          have ne2 : L ≠ t2 := ne_of_none e10 n2
          have e12 : (upd G7 t2 (.tup [.str k, .int (s0.2 - e.fee)])) L = some (.lst acc') := (upd_ne ne2).trans e10
          have h12 := h10.ts (ts_same sn2)
          have p2 : PrAt (upd G7 t2 (.tup [.str k, .int (s0.2 - e.fee)])) (.ref t2) (k, s0.2 - e.fee) := ⟨t2, rfl, upd_same⟩
          have s12 := s11.trans sn2
          have t12 := t11.trans (ts_same sn2)
          generalize upd G7 t2 (.tup [.str k, .int (s0.2 - e.fee)]) = G8 at sn2 e12 h12 p2 s12 t12 ⊢
          refine ⟨.ref L, rfl, dPr (k, s0.2 - e.fee), (addP g fs ((lvOf g s0).take j)).map dPr, p2.dp, .lst (.inl (.inl e12)) h12.dp, ?_, prs_lay fun s hs => kn_good (gj.all s hs).1 (by have := (gj.all s hs).2.2; omega), (show 1 ≤ 60 by decide), _, rfl, ?_⟩
          · exact good_shaped (kn_good kn.1 (by have := kn.2; omega)) (show 1 ≤ 64 by decide)
          rw [any_pr, Bool.bne_true]
          rw [decide_not] at sn
          by_cases m : (k, s0.2 - e.fee) ∈ addP g fs ((lvOf g s0).take j)
          · rw [decide_eq_true m] at sn ⊢
            refine iteF ⟨_, _, acc', rfl, s12, t12, e12, ?_⟩
            rw [sn]
            exact h12
          · rw [decide_eq_false m] at sn ⊢
            refine iteT ⟨.ref L, rfl, .inl ⟨rfl, _, .inl (.inl e12)⟩, .str k, rfl, .int (s0.2 - e.fee), rfl, (show 2 ≤ sizeLine by decide), fun t3 n3 => ?_⟩
            have sn3 := same_new (o := .tup [.str k, .int (s0.2 - e.fee)]) n3
            have ne3 : L ≠ t3 := ne_of_none e12 n3
            have e13 : (upd G8 t3 (.tup [.str k, .int (s0.2 - e.fee)])) L = some (.lst acc') := (upd_ne ne3).trans e12
            have h13 := h12.ts (ts_same sn3)
            have p3 : PrAt (upd G8 t3 (.tup [.str k, .int (s0.2 - e.fee)])) (.ref t3) (k, s0.2 - e.fee) := ⟨t3, rfl, upd_same⟩
            refine ⟨L, acc', .ref t3, rfl, rfl, e13, small' (by omega), ?_⟩
            have t14 : TS (upd G8 t3 (.tup [.str k, .int (s0.2 - e.fee)])) (upd (upd G8 t3 (.tup [.str k, .int (s0.2 - e.fee)])) L (.lst (acc' ++ [.ref t3]))) := ts_lst e13
            refine ⟨_, _, acc' ++ [.ref t3], rfl, putS (s12.trans sn3) nL0, (t12.trans (ts_same sn3)).trans t14, upd_same, ?_⟩
            rw [sn]
            exact PrsAt.app (h13.ts t14) (.cons (p3.ts t14) .nil)
      · rintro σ G5 ⟨y5, y6, acc', rfl, s8, t8, e8, h8⟩
        rw [List.length_map, ← lts, List.take_length] at h8
        refine ⟨.int (tn : Nat), rfl, (tn : Nat), 1, rfl, rfl, ?_⟩
        have gd' : GoodF g p (addP g fs (lvOf g s0)) := gd.add G known
        refine ⟨28 - (tn + 1), by omega, tn + 1, _, _, acc', _, _, rfl, rfl, s8, e8, h8, gd', eb2, ?_⟩
        have := addP_len (g := g) (fs := fs) (ts := lvOf g s0)
        omega
    · rw [decide_eq_false (show ¬ ((tn : Nat) : Int) < (acc.length : Nat) by omega)]
      have efs : fs = foundP g p := by
        rw [← eb]
        have z : fs[tn]? = none := List.getElem?_eq_none_iff.mpr (by omega)
        cases hk : 28 - tn with
        | zero => rfl
        | succ k =>
          show fs = (match fs[tn]? with | none => fs | some s => bfs g k (tn + 1) (addP g fs (lvOf g s)))
          rw [z]
      subst efs
      exact iteF ⟨.ref L, rfl, q L acc G2 s5 nL0 e5 h5⟩
end
end Kn


namespace Kn
open PySem PySem.Spec PyProof.Rows L2
/-! ### texts in order -/
def leS (a b : Str) : Bool := decide (a.cps.toList ≤ b.cps.toList)
theorem leS_trans {a b c : Str} (h : leS a b = true) (k : leS b c = true) : leS a c = true := decide_eq_true (List.le_trans (of_decide_eq_true h) (of_decide_eq_true k))
theorem leS_total (a b : Str) : (leS a b || leS b a) = true := by
  rcases List.le_total a.cps.toList b.cps.toList with h | h
  · unfold leS
    rw [decide_eq_true h, Bool.true_or]
  · unfold leS
    rw [decide_eq_true h, Bool.or_true]
theorem cps_inj {a b : Str} (h : a.cps.toList = b.cps.toList) : a = b := by
  cases a
  cases b
  exact congrArg Str.mk (Array.toList_inj.mp h)
theorem leS_anti {a b : Str} (h : leS a b = true) (k : leS b a = true) : a = b := cps_inj (List.le_antisymm (of_decide_eq_true h) (of_decide_eq_true k))
theorem str_order : ∀ (xs ys : List Str), xs.Perm ys → xs.Pairwise (fun a b => leS a b = true) → ys.Pairwise (fun a b => leS a b = true) → xs = ys
  | [], ys, p, _, _ => by
    have := p.length_eq
    exact (List.eq_nil_of_length_eq_zero this.symm).symm
  | x :: xs, [], p, _, _ => by
    have := p.length_eq
    cases this
  | x :: xs, y :: ys, p, h, k => by
    obtain ⟨h1, h2⟩ := List.pairwise_cons.mp h
    obtain ⟨k1, k2⟩ := List.pairwise_cons.mp k
    have e : x = y := by
      have mx : x ∈ y :: ys := p.mem_iff.mp (List.mem_cons_self ..)
      have my : y ∈ x :: xs := p.mem_iff.mpr (List.mem_cons_self ..)
      rcases List.mem_cons.mp mx with z | z
      · exact z
      · rcases List.mem_cons.mp my with w | w
        · exact w.symm
        · exact leS_anti (h1 y w) (k1 x z)
    subst e
    rw [str_order xs ys ((List.perm_cons x).mp p) h2 k2]
def sortS (l : List Str) : List Str := l.mergeSort leS
theorem sortS_perm (l : List Str) : (sortS l).Perm l := List.mergeSort_perm _ _
theorem sortS_le (l : List Str) : (sortS l).Pairwise (fun a b => leS a b = true) := List.pairwise_mergeSort (le := leS) (fun _ _ _ => leS_trans) leS_total l
theorem sortS_of {xs l : List Str} (p : xs.Perm l) (h : xs.Pairwise (fun a b => leS a b = true)) : xs = sortS l := str_order _ _ (p.trans (sortS_perm l).symm) h (sortS_le l)
theorem rising_le : ∀ (r : List Str) (p : Str), risingS p r = true → (p :: r).Pairwise (fun a b => leS a b = true)
  | [], _, _ => List.pairwise_singleton _ _
  | x :: r, p, h => by
    have h : (!ltCps x.cps.toList p.cps.toList && risingS x r) = true := h
    obtain ⟨h1, h2⟩ := Bool.and_eq_true_iff.mp h
    have ih := rising_le r x h2
    have px : leS p x = true := by
      rw [ltCps_eq] at h1
      have z : ¬ x.cps.toList < p.cps.toList := by simpa using h1
      exact decide_eq_true (List.not_lt.mp z)
    refine List.pairwise_cons.mpr ⟨fun y hy => ?_, ih⟩
    rcases List.mem_cons.mp hy with rfl | hy
    · exact px
    · exact leS_trans px ((List.pairwise_cons.mp ih).1 y hy)
theorem sorted_leS {ys : List Str} (h : sortedS ys = true) : ys.Pairwise (fun a b => leS a b = true) := by
  cases ys with
  | nil => exact List.Pairwise.nil
  | cons p r => exact rising_le r p h
/-- a set of texts, in order -/
def ascS (xs : List Str) : List Str := sortS (gathered xs)
theorem mem_ascS {xs : List Str} {x : Str} : x ∈ ascS xs ↔ x ∈ xs := (sortS_perm _).mem_iff.trans mem_gathered
theorem ascS_nd (xs : List Str) : (ascS xs).Nodup := (sortS_perm _).nodup_iff.mpr (nodup_gathered xs)
theorem ascS_le (xs : List Str) : (ascS xs).Pairwise (fun a b => leS a b = true) := sortS_le _
theorem ascS_of {ys xs : List Str} (h : ys.Pairwise (fun a b => leS a b = true)) (nd : ys.Nodup) (m : ∀ x, x ∈ ys ↔ x ∈ xs) : ys = ascS xs :=
  sortS_of ((List.perm_ext_iff_of_nodup nd (nodup_gathered xs)).mpr fun x => (m x).trans mem_gathered.symm) h
theorem ascS_eq {xs ys : List Str} (h : ∀ x, x ∈ xs ↔ x ∈ ys) : ascS xs = ascS ys := ascS_of (ascS_le xs) (ascS_nd xs) fun x => mem_ascS.trans (h x)
theorem ascS_len (xs : List Str) : (ascS xs).length ≤ xs.length := by
  have z := (sortS_perm (gathered xs)).length_eq
  have y := len_gathered xs
  unfold ascS
  omega
end Kn


namespace Kn
open PySem PySem.Spec PyProof.Rows L2
open PySem.W (dataLe dataLt keyToks keyToksAll alike alikeAll AllAlike Sortable EachIs dataLe_eq dataLe_str dataLt_cons dataLt_tuple)
def headC (x : Str) : Nat := x.cps.toList.getD 0 0
def wordB (hs : List Nat) (x : Str) : Bool := match x.cps.toList with
  | a :: c :: rest => decide (a ∈ hs) && decide (49 ≤ c ∧ c ≤ 57) && (rest.all fun d => decide (d = 42 ∨ d ∈ hs)) && decide (rest.length ≤ 5)
  | _ => false
structure WsOk (ws : List Str) : Prop where
  l1 : 1 ≤ ws.length
  l4 : ws.length ≤ 4
  nd : (ws.map headC).Nodup
  le : ∀ d ∈ ws.map headC, 97 ≤ d ∧ d < 101
  a : 97 ∈ ws.map headC
  each : ∀ x ∈ ws, wordB (ws.map headC) x = true
theorem word_is {hs : List Nat} {x : Str} (h : wordB hs x = true) : ∃ a c rest, x.cps.toList = a :: c :: rest ∧ headC x = a ∧ a ∈ hs ∧ (49 ≤ c ∧ c ≤ 57) ∧ (∀ d ∈ rest, d = 42 ∨ d ∈ hs) ∧ rest.length ≤ 5 := by
  unfold wordB at h
  match hx : x.cps.toList, h with
  | a :: c :: rest, h =>
    rw [Bool.and_eq_true, Bool.and_eq_true, Bool.and_eq_true] at h
    exact ⟨a, c, rest, rfl, by unfold headC; rw [hx]; rfl, of_decide_eq_true h.1.1.1, of_decide_eq_true h.1.1.2, fun d hd => of_decide_eq_true (List.all_eq_true.mp h.1.2 d hd), of_decide_eq_true h.2⟩
structure NmOk (nm : List Str) : Prop where
  len : nm.length = 4
  nd : nm.Nodup
  good : ∀ x ∈ nm, nameB (.str x) = true
def nmAt (nm : List Str) (d : Nat) : Str := nm.getD (d - 97) ""
def rowW (nm : List Str) (rest : List Nat) : List Str := (rest.filter fun d => decide (d ≠ 42)).map (nmAt nm)
structure EntW (nm : List Str) (x : Str) (e : Ent) : Prop where
  ex : ∃ a c rest, x.cps.toList = a :: c :: rest ∧ e.name = nmAt nm a ∧ e.fee = (c : Int) - 48 ∧ e.has = decide (42 ∈ x.cps.toList) ∧ e.row.Perm (rowW nm rest)
theorem nm_in {nm : List Str} (N : NmOk nm) {d : Nat} (h : 97 ≤ d ∧ d < 101) : nmAt nm d ∈ nm ∧ nm[d - 97]? = some (nmAt nm d) := by
  have l := N.len
  have e : nm[d - 97]? = some (nm[d - 97]'(by omega)) := List.getElem?_eq_getElem (by omega)
  have z : nmAt nm d = nm[d - 97]'(by omega) := by
    unfold nmAt
    rw [List.getD_eq_getElem?_getD, e]
    rfl
  rw [z]
  exact ⟨List.getElem_mem _, e⟩
theorem nm_inj {nm : List Str} (N : NmOk nm) {d e : Nat} (hd : 97 ≤ d ∧ d < 101) (he : 97 ≤ e ∧ e < 101) (h : nmAt nm d = nmAt nm e) : d = e := by
  have l := N.len
  have a := (nm_in N hd).2
  have b := (nm_in N he).2
  rw [h] at a
  have := (List.getElem?_inj (by omega) N.nd).mp (a.trans b.symm)
  omega
def dEnt (e : Ent) : PyData := .tuple [.str e.name, .int e.fee, .bool e.has, .tuple (e.row.map PyData.str)]
theorem lt_str (a b : Str) : (!dataLt (.str b) (.str a)) = leS a b := by
  have z := congrFun (congrFun (dataLe_str (fun s : Str => s)) a) b
  rw [dataLe_eq] at z
  exact z
theorem le_entN {x y : Ent} (h : x.name ≠ y.name) : (!dataLt (dEnt y) (dEnt x)) = leS x.name y.name := by
  show (!dataLt (.tuple (.str y.name :: [.int y.fee, .bool y.has, .tuple (y.row.map PyData.str)])) (.tuple (.str x.name :: [.int x.fee, .bool x.has, .tuple (x.row.map PyData.str)]))) = _
  have n : PyData.eqv (.str y.name) (.str x.name) = false := beq_eq_false_iff_ne.mpr fun z => h z.symm
  rw [dataLt_tuple, dataLt_cons rfl, if_neg (by rw [n]; decide), lt_str]
def SrtN (g : Pg) : Prop := (g.es.map (·.name)).Pairwise fun a b => leS a b = true
theorem srt_of {cs : List (V × Ent)} {as : Str} (pw : (cs.map fun c => (c.1, dEnt c.2)).Pairwise fun x y => leD (fun p : VD => p.2) x y = true) (nd : ((cs.map (·.2)).map (·.name)).Nodup) : SrtN ⟨cs.map (·.2), as⟩ := by
  have h1 := List.pairwise_map.mp pw
  have h2 := List.pairwise_map.mp (List.pairwise_map.mp (show ((cs.map (·.2)).map (·.name)).Pairwise (· ≠ ·) from nd))
  refine List.pairwise_map.mpr (List.pairwise_map.mpr ((h1.and h2).imp fun {x y} h => ?_))
  rw [← le_entN h.2]
  have z : dataLe false (fun p : VD => p.2) (x.1, dEnt x.2) (y.1, dEnt y.2) = true := h.1
  rw [dataLe_eq] at z
  exact z
theorem sqlKeep {K : PySem.W.Frag} {H H' : Hp} {a : Addr} {xs : List V} (s : Same H H') (h : SqL K H a xs) : SqL K H' a xs := by
  rcases h with (h | ⟨o, h⟩) | h
  · exact .inl (.inl (s _ _ h))
  · exact .inl (.inr ⟨o, s _ _ h⟩)
  · exact .inr h
theorem cut2 {x : Str} {a c : Nat} {rest : List Nat} (h : x.cps.toList = a :: c :: rest) : cutS x (some 2) none = ⟨rest.toArray⟩ := by
  obtain ⟨⟨l⟩⟩ := x
  have h : l = a :: c :: rest := h
  subst h
  have e : HT.sIx (a :: c :: rest).length 0 (some 2) = 2 := by
    show min (2 : Int).toNat (a :: c :: rest).length = 2
    rw [List.length_cons, List.length_cons]
    show min 2 (rest.length + 1 + 1) = 2
    omega
  show (⟨(((a :: c :: rest).drop (HT.sIx (a :: c :: rest).length 0 (some 2))).take ((a :: c :: rest).length - HT.sIx (a :: c :: rest).length 0 (some 2))).toArray⟩ : Str) = _
  rw [e]
  show (⟨(rest.take ((a :: c :: rest).length - 2)).toArray⟩ : Str) = _
  rw [List.take_of_length_le (by rw [List.length_cons, List.length_cons]; omega)]
theorem strs_dp {K : PySem.W.Frag} {H : Hp} : ∀ ts : List Str, DpAll K H (ts.map V.str) (ts.map PyData.str)
  | [] => .nil
  | t :: r => .cons (.str t) (strs_dp r)
theorem EntAt.dp {K : PySem.W.Frag} {H : Hp} {v : V} {e : Ent} : EntAt K H v e → Dp K H v (dEnt e) := fun ⟨_, _, a, b, c⟩ => a ▸ .tup b (.cons (.str _) (.cons (.int _) (.cons (.bl _) (.cons (.tup c (strs_dp _)) .nil))))
theorem strs_alike : ∀ ts us : List Str, PySem.W.alikeAll (ts.map PyData.str) (us.map PyData.str) = true
  | [], [] => rfl
  | [], _ :: _ => rfl
  | _ :: _, [] => rfl
  | t :: ts, u :: us => by
    show (true && PySem.W.alikeAll (ts.map PyData.str) (us.map PyData.str)) = true
    rw [strs_alike ts us]
    rfl
theorem ent_alike (e e' : Ent) : PySem.W.alike (dEnt e) (dEnt e') = true := by
  show (true && (true && (true && (PySem.W.alikeAll (e.row.map PyData.str) (e'.row.map PyData.str) && true)))) = true
  rw [strs_alike]
  rfl
theorem strs_flat0 : ∀ ts : List Str, PyData.depthAll (ts.map PyData.str) = 0
  | [] => rfl
  | t :: r => by
    show max 0 (PyData.depthAll (r.map PyData.str)) = 0
    rw [strs_flat0 r]
    rfl
theorem ent_deep (e : Ent) : (dEnt e).depth ≤ 8 := by
  have z : (dEnt e).depth = max 0 (max 0 (max 0 (max (PyData.depthAll (e.row.map PyData.str) + 1) 0))) + 1 := rfl
  rw [z, strs_flat0]
  decide
theorem ents_zip {K : PySem.W.Frag} {H : Hp} : ∀ {vs : List V} {es : List Ent}, EntsAt K H vs es → ∃ cs : List (V × Ent), cs.map (·.1) = vs ∧ cs.map (·.2) = es ∧ ∀ c ∈ cs, EntAt K H c.1 c.2
  | _, _, .nil => ⟨[], rfl, rfl, fun _ h => by cases h⟩
  | _, _, .cons (v := v) (e := s) a b => by
    obtain ⟨cs, e1, e2, h⟩ := ents_zip b
    refine ⟨(v, s) :: cs, by rw [List.map_cons, e1], by rw [List.map_cons, e2], fun c hc => ?_⟩
    rcases List.mem_cons.mp hc with rfl | hc
    · exact a
    · exact h c hc
theorem ents_of {K : PySem.W.Frag} {H : Hp} : ∀ {cs : List (V × Ent)}, (∀ c ∈ cs, EntAt K H c.1 c.2) → EntsAt K H (cs.map (·.1)) (cs.map (·.2))
  | [], _ => .nil
  | c :: cs, h => .cons (h c (List.mem_cons_self ..)) (ents_of fun x hx => h x (List.mem_cons_of_mem _ hx))
structure NamedA (g : Pg) (ws nm : List Str) (d0 : Nat) : Prop where
  asks : g.asks = nmAt nm d0
  d0 : d0 ∈ ws.map headC
  rows : ∃ es1 : List Ent, g.es.Perm es1 ∧ es1.length = ws.length ∧ ∀ (j : Nat) (x : Str), ws[j]? = some x → ∃ e, es1[j]? = some e ∧ EntW nm x e
theorem nameda_good {g : Pg} {ws nm : List Str} {d0 : Nat} (W : WsOk ws) (N : NmOk nm) (h : NamedA g ws nm d0) : GW g := by
  obtain ⟨es1, pm, le, each⟩ := h.rows
  have l1 := W.l1
  have l4 := W.l4
  have nameAt : ∀ j e, es1[j]? = some e → ∃ x, ws[j]? = some x ∧ EntW nm x e ∧ e.name = nmAt nm (headC x) := fun j e hj => by
    have lt := (List.getElem?_eq_some_iff.mp hj).1
    have hx : ws[j]? = some (ws[j]'(by omega)) := List.getElem?_eq_getElem (by omega)
    obtain ⟨e', he', E⟩ := each j _ hx
    rw [hj] at he'
    cases he'
    obtain ⟨a0, c, rest, hc, hh, _⟩ := word_is (W.each _ (List.mem_of_getElem? hx))
    obtain ⟨a, c', rest', hc', n, _⟩ := E.ex
    rw [hc] at hc'
    injection hc' with z _
    exact ⟨_, hx, E, by rw [n, hh, ← z]⟩
  have inH : ∀ j x, ws[j]? = some x → headC x ∈ ws.map headC := fun j x hx => List.mem_map.mpr ⟨x, List.mem_of_getElem? hx, rfl⟩
  have nd1 : (es1.map (·.name)).Nodup := by
    refine List.pairwise_iff_getElem.mpr fun i j hi hj hij z => ?_
    rw [List.length_map] at hi hj
    rw [List.getElem_map, List.getElem_map] at z
    obtain ⟨x, hx, _, a⟩ := nameAt i _ (List.getElem?_eq_getElem hi)
    obtain ⟨y, hy, _, b⟩ := nameAt j _ (List.getElem?_eq_getElem hj)
    rw [a, b] at z
    have ee := nm_inj N (W.le _ (inH i x hx)) (W.le _ (inH j y hy)) z
    have := (List.getElem?_inj (i := i) (j := j) (by rw [List.length_map]; omega) W.nd).mp (by rw [List.getElem?_map, List.getElem?_map, hx, hy]; exact congrArg some ee)
    omega
  have pmn := pm.map (·.name)
  have nameIn : ∀ d ∈ ws.map headC, nmAt nm d ∈ g.es.map (·.name) := fun d hd => by
    obtain ⟨x, hx, rfl⟩ := List.mem_map.mp hd
    obtain ⟨j, hj, ej⟩ := List.mem_iff_getElem.mp hx
    have lt : j < es1.length := by omega
    obtain ⟨x', hx', _, n⟩ := nameAt j _ (List.getElem?_eq_getElem lt)
    rw [List.getElem?_eq_getElem hj, ej] at hx'
    cases hx'
    rw [pmn.mem_iff, ← n]
    exact List.mem_map.mpr ⟨_, List.getElem_mem lt, rfl⟩
  have ok1 : ∀ e ∈ g.es, nameB (.str e.name) = true ∧ (1 ≤ e.fee ∧ e.fee ≤ 9) ∧ e.row.length ≤ 5 ∧ ∀ s ∈ e.row, s ∈ g.es.map (·.name) := fun e he => by
    obtain ⟨j, hj, ej⟩ := List.mem_iff_getElem.mp (pm.mem_iff.mp he)
    obtain ⟨x, hx, E, nn⟩ := nameAt j e (by rw [List.getElem?_eq_getElem hj, ej])
    obtain ⟨a0, c, rest, hc, hh, ha, hd, hr, hl⟩ := word_is (W.each _ (List.mem_of_getElem? hx))
    obtain ⟨a, c', rest', hc', n, f, _, r⟩ := E.ex
    rw [hc] at hc'
    injection hc' with z1 z2
    injection z2 with z2 z3
    subst z1 z2 z3
    refine ⟨?_, ⟨by omega, by omega⟩, ?_, fun s hs => ?_⟩
    · rw [n]
      exact N.good _ (nm_in N (W.le _ ha)).1
    · rw [r.length_eq]
      unfold rowW
      rw [List.length_map]
      exact Nat.le_trans (List.length_filter_le _ _) hl
    · have hs := r.mem_iff.mp hs
      unfold rowW at hs
      obtain ⟨d, hd', rfl⟩ := List.mem_map.mp hs
      obtain ⟨hd1, hd2⟩ := List.mem_filter.mp hd'
      have nd42 := of_decide_eq_true hd2
      rcases hr d hd1 with z | z
      · exact absurd z nd42
      · exact nameIn d z
  have fit : ∀ x, nameB (.str x) = true → Fit 8 x := fun x hx => by
    have h : (decide (1 ≤ x.length) && decide (x.length ≤ 8) && lowB x) = true := hx
    rw [Bool.and_eq_true, Bool.and_eq_true] at h
    refine ⟨of_decide_eq_true h.1.2, fun c hc => ?_⟩
    have y := of_decide_eq_true (List.all_eq_true.mp h.2 c hc)
    omega
  have lg : g.es.length ≤ 4 := by rw [pm.length_eq]; omega
  have ask0 : g.asks ∈ g.es.map (·.name) := by
    rw [h.asks]
    exact nameIn d0 h.d0
  refine ⟨⟨by omega, fun e he => ?_, ?_⟩, pmn.nodup_iff.mpr nd1, fun e he => (ok1 e he).2.1, fun e he => (ok1 e he).2.2.2, ask0, fun e he => (ok1 e he).1, lg, fun e he => (ok1 e he).2.2.1⟩
  · obtain ⟨n, f, r5, t⟩ := ok1 e he
    refine ⟨fit _ n, Nat.lt_of_lt_of_le (show e.fee.natAbs < 10 by omega) (by decide), by omega, fun s hs => ?_⟩
    obtain ⟨e', he', ee⟩ := List.mem_map.mp (t s hs)
    exact ee ▸ fit _ (ok1 e' he').1
  · obtain ⟨e, he, ee⟩ := List.mem_map.mp ask0
    exact ee ▸ fit _ (ok1 e he).1
def tSs : List Str → TA
  | [] => tNil
  | s :: r => tCons (tC (.str s)) (tSs r)
theorem ss_all : ∀ (ss : List Str) (σ : L2.St) (H : Hp) (R : List V → Hp → Prop), R (ss.map V.str) H → tSs ss σ H R
  | [], _, _, _, k => k
  | s :: r, σ, H, R, k => ss_all r σ H _ k
theorem app_cps (a b : Str) : (a ++ b).cps.toList = a.cps.toList ++ b.cps.toList := by
  show (a.cps ++ b.cps).toList = _
  rw [Array.toList_append]
def wordJ (n j : Nat) (x : Str) : Bool := match x.cps.toList with
  | a :: c :: rest => decide (a = 97 + j) && decide (49 ≤ c ∧ c ≤ 57) && (rest.all fun d => decide (d = 42 ∨ (97 ≤ d ∧ d < 97 + n))) && decide (rest.length ≤ 5)
  | _ => false
theorem wordJ_is {n j : Nat} {x : Str} (h : wordJ n j x = true) : ∃ c rest, x.cps.toList = (97 + j) :: c :: rest ∧ headC x = 97 + j ∧ (49 ≤ c ∧ c ≤ 57) ∧ (∀ d ∈ rest, d = 42 ∨ (97 ≤ d ∧ d < 97 + n)) ∧ rest.length ≤ 5 := by
  unfold wordJ at h
  match hx : x.cps.toList, h with
  | a :: c :: rest, h =>
    rw [Bool.and_eq_true, Bool.and_eq_true, Bool.and_eq_true] at h
    obtain rfl := of_decide_eq_true h.1.1.1
    exact ⟨c, rest, rfl, by unfold headC; rw [hx]; rfl, of_decide_eq_true h.1.1.2, fun d hd => of_decide_eq_true (List.all_eq_true.mp h.1.2 d hd), of_decide_eq_true h.2⟩
theorem drawn_ok {n : Nat} {ws : List Str} (lw : ws.length = n) (n1 : 1 ≤ n) (n4 : n ≤ 4) (each : ∀ (j : Nat) (x : Str), ws[j]? = some x → wordJ n j x = true) : WsOk ws := by
  have heads : ws.map headC = (List.range n).map fun j => 97 + j := by
    refine List.ext_getElem? fun j => ?_
    rw [List.getElem?_map, List.getElem?_map]
    rcases Nat.lt_or_ge j n with h | h
    · have hx : ws[j]? = some (ws[j]'(by omega)) := List.getElem?_eq_getElem (by omega)
      obtain ⟨_, _, _, hh, _⟩ := wordJ_is (each j _ hx)
      rw [hx, List.getElem?_range h]
      exact congrArg some hh
    · rw [List.getElem?_eq_none_iff.mpr (by omega), List.getElem?_eq_none_iff.mpr (by rw [List.length_range]; exact h)]
      rfl
  have mem : ∀ d, 97 ≤ d ∧ d < 97 + n → d ∈ ws.map headC := fun d hd => by
    rw [heads]
    exact List.mem_map.mpr ⟨d - 97, List.mem_range.mpr (by omega), by omega⟩
  refine ⟨by omega, by omega, ?_, fun d hd => ?_, mem 97 (by omega), fun x hx => ?_⟩
  · rw [heads]
    have : n = 1 ∨ n = 2 ∨ n = 3 ∨ n = 4 := by omega
    rcases this with rfl | rfl | rfl | rfl <;> decide
  · rw [heads] at hd
    obtain ⟨j, hj, rfl⟩ := List.mem_map.mp hd
    have := List.mem_range.mp hj
    omega
  · obtain ⟨j, hj, ej⟩ := List.mem_iff_getElem.mp hx
    obtain ⟨c, rest, hc, hh, h1, h2, h3⟩ := wordJ_is (each j x (by rw [List.getElem?_eq_getElem hj, ej]))
    unfold wordB
    rw [hc]
    show (decide (97 + j ∈ ws.map headC) && decide (49 ≤ c ∧ c ≤ 57) && (rest.all fun d => decide (d = 42 ∨ d ∈ ws.map headC)) && decide (rest.length ≤ 5)) = true
    rw [decide_eq_true (mem _ (by omega)), decide_eq_true h1, decide_eq_true h3, List.all_eq_true.mpr fun d hd => decide_eq_true ((h2 d hd).imp id (mem d))]
    rfl
theorem join_one : ∀ ds : List Nat, Txt.join "" (ds.map fun d => (⟨#[d]⟩ : Str)) = ⟨ds.toArray⟩ := fun ds => by
  rw [TL.join_eq]
  have key : ∀ ds : List Nat, (Str.join "" (ds.map fun d => (⟨#[d]⟩ : Str))).cps.toList = ds := by
    intro ds
    induction ds with
    | nil => rfl
    | cons d r ih =>
      cases r with
      | nil => rfl
      | cons e r =>
        show (((⟨#[d]⟩ : Str) ++ "" ++ Str.join "" ((e :: r).map fun d => (⟨#[d]⟩ : Str)))).cps.toList = _
        have z : ∀ a b : Str, (a ++ b).cps.toList = a.cps.toList ++ b.cps.toList := fun a b => by
          show (a.cps ++ b.cps).toList = _
          rw [Array.toList_append]
        rw [z, z, ih]
        rfl
  have z := key ds
  generalize Str.join "" (ds.map fun d => (⟨#[d]⟩ : Str)) = x at z
  obtain ⟨⟨l⟩⟩ := x
  have z : l = ds := z
  rw [z]
theorem sum_one : ∀ ds : List Nat, ((ds.map fun d => (⟨#[d]⟩ : Str)).map (·.length)).sum = ds.length
  | [] => rfl
  | d :: r => by
    show 1 + ((r.map fun d => (⟨#[d]⟩ : Str)).map (·.length)).sum = r.length + 1
    rw [sum_one r]
    omega
theorem keep_put {f p : Addr} {H G : Hp} {o : HO} (k : Keep f H G) (n : H p = none) : Keep f H (upd G p o) := fun b x nb h => by
  rw [upd_ne (ne_of_none h n)]
  exact k b x nb h
theorem head_app {x st : Str} {a c : Nat} {rest : List Nat} (h : x.cps.toList = a :: c :: rest) : headC (x ++ st) = a := by
  unfold headC
  rw [app_cps, h]
  rfl
end Kn


namespace Kn
open PySem PySem.Spec PyProof.Rows L2
abbrev nSc : List Str := ["_law_some"]
theorem scSc : FnScope nSc [] (defScope (topS 29)) := ⟨rfl, rfl, rfl, by decide +kernel, rfl, by decide +kernel, by decide +kernel⟩
/-! ### pages: an asker, marks, numbers, words -/
def wordK (n j : Nat) (x : Str) : Bool := match x.cps.toList with
  | a :: c :: rest => decide (a = 97 + j) && decide (49 ≤ c ∧ c ≤ 57) && (rest.all fun d => decide (d = 42 ∨ (97 ≤ d ∧ d < 97 + n))) && decide rest.Nodup
  | _ => false
structure WordK (n j c : Nat) (rest : List Nat) (x : Str) : Prop where
  cs : x.cps.toList = (97 + j) :: c :: rest
  c1 : 49 ≤ c ∧ c ≤ 57
  all : ∀ d ∈ rest, d = 42 ∨ (97 ≤ d ∧ d < 97 + n)
  nd : rest.Nodup
theorem wordK_is {n j : Nat} {x : Str} (h : wordK n j x = true) : ∃ c rest, WordK n j c rest x := by
  unfold wordK at h
  match hx : x.cps.toList, h with
  | a :: c :: rest, h =>
    rw [Bool.and_eq_true, Bool.and_eq_true, Bool.and_eq_true] at h
    obtain rfl := of_decide_eq_true h.1.1.1
    exact ⟨c, rest, hx, of_decide_eq_true h.1.1.2, fun d hd => of_decide_eq_true (List.all_eq_true.mp h.1.2 d hd), of_decide_eq_true h.2⟩
theorem WordK.ok {n j c : Nat} {rest : List Nat} {x : Str} (h : WordK n j c rest x) : wordK n j x = true := by
  unfold wordK
  rw [h.cs]
  show (decide (97 + j = 97 + j) && decide (49 ≤ c ∧ c ≤ 57) && (rest.all fun d => decide (d = 42 ∨ (97 ≤ d ∧ d < 97 + n))) && decide rest.Nodup) = true
  rw [decide_eq_true rfl, decide_eq_true h.c1, decide_eq_true h.nd, List.all_eq_true.mpr fun d hd => decide_eq_true (h.all d hd)]
  rfl
theorem WordK.few {n j c : Nat} {rest : List Nat} {x : Str} (h : WordK n j c rest x) : rest.length ≤ 1 + n := by
  have z := nodup_sub (ys := 42 :: (List.range n).map fun i => 97 + i) h.nd fun d hd => by
    rcases h.all d hd with rfl | k
    · exact List.mem_cons_self ..
    · exact List.mem_cons_of_mem _ (List.mem_map.mpr ⟨d - 97, List.mem_range.mpr (by omega), by omega⟩)
  rw [List.length_cons, List.length_map, List.length_range] at z
  omega
theorem WordK.len {n j c : Nat} {rest : List Nat} {x : Str} (h : WordK n j c rest x) : x.length = rest.length + 2 := by
  have : x.cps.toList.length = rest.length + 2 := by rw [h.cs]; rfl
  exact this
structure Page where
  ask : Nat
  pw : Nat
  sz : List Nat
  ws : List Str
def Page.pts (q : Page) : List Str := ⟨#[q.ask]⟩ :: ⟨#[48 + q.pw]⟩ :: ⟨q.sz.toArray⟩ :: q.ws
def Page.tx (q : Page) : Str := Txt.join " " q.pts
structure PageOk (q : Page) : Prop where
  n1 : 1 ≤ q.ws.length
  n4 : q.ws.length ≤ 4
  ask : 97 ≤ q.ask ∧ q.ask < 97 + q.ws.length
  pw : q.pw ≤ 6
  sl : q.sz.length = q.ws.length
  sd : ∀ c ∈ q.sz, 49 ≤ c ∧ c ≤ 52
  each : ∀ (j : Nat) (x : Str), q.ws[j]? = some x → wordK q.ws.length j x = true
def pageB (q : Page) : Bool := decide (1 ≤ q.ws.length) && decide (q.ws.length ≤ 4) && decide (97 ≤ q.ask ∧ q.ask < 97 + q.ws.length) && decide (q.pw ≤ 6) && decide (q.sz.length = q.ws.length) && (q.sz.all fun c => decide (49 ≤ c ∧ c ≤ 52)) && ((List.range q.ws.length).all fun j => wordK q.ws.length j (q.ws.getD j ""))
theorem pageB_ok {q : Page} (h : pageB q = true) : PageOk q := by
  unfold pageB at h
  rw [Bool.and_eq_true, Bool.and_eq_true, Bool.and_eq_true, Bool.and_eq_true, Bool.and_eq_true, Bool.and_eq_true] at h
  obtain ⟨⟨⟨⟨⟨⟨h1, h2⟩, h3⟩, h4⟩, h5⟩, h6⟩, h7⟩ := h
  refine ⟨of_decide_eq_true h1, of_decide_eq_true h2, of_decide_eq_true h3, of_decide_eq_true h4, of_decide_eq_true h5, fun c hc => of_decide_eq_true (List.all_eq_true.mp h6 c hc), fun j x hx => ?_⟩
  have lt := (List.getElem?_eq_some_iff.mp hx).1
  have z := List.all_eq_true.mp h7 j (List.mem_range.mpr lt)
  rw [List.getD_eq_getElem?_getD, hx] at z
  exact z
theorem word_j {n j : Nat} {x : Str} (h : wordK n j x = true) (n4 : n ≤ 4) : wordJ n j x = true := by
  obtain ⟨c, rest, w⟩ := wordK_is h
  have l := w.few
  unfold wordJ
  rw [w.cs]
  show (decide (97 + j = 97 + j) && decide (49 ≤ c ∧ c ≤ 57) && (rest.all fun d => decide (d = 42 ∨ (97 ≤ d ∧ d < 97 + n))) && decide (rest.length ≤ 5)) = true
  rw [decide_eq_true rfl, decide_eq_true w.c1, List.all_eq_true.mpr fun d hd => decide_eq_true (w.all d hd), decide_eq_true (show rest.length ≤ 5 by omega)]
  rfl
theorem PageOk.W {q : Page} (h : PageOk q) : WsOk q.ws := drawn_ok rfl h.n1 h.n4 fun j x hx => word_j (h.each j x hx) h.n4
theorem PageOk.heads {q : Page} (h : PageOk q) : ∀ d, d ∈ q.ws.map headC ↔ (97 ≤ d ∧ d < 97 + q.ws.length) := fun d => by
  constructor
  · intro hd
    obtain ⟨x, hx, rfl⟩ := List.mem_map.mp hd
    obtain ⟨j, hj, ej⟩ := List.mem_iff_getElem.mp hx
    obtain ⟨c, rest, w⟩ := wordK_is (h.each j x (by rw [List.getElem?_eq_getElem hj, ej]))
    unfold headC
    rw [w.cs]
    show 97 ≤ 97 + j ∧ 97 + j < _
    omega
  · intro hd
    have hx : q.ws[d - 97]? = some (q.ws[d - 97]'(by omega)) := List.getElem?_eq_getElem (by omega)
    obtain ⟨c, rest, w⟩ := wordK_is (h.each _ _ hx)
    refine List.mem_map.mpr ⟨_, List.getElem_mem (by omega : d - 97 < q.ws.length), ?_⟩
    unfold headC
    rw [w.cs]
    show 97 + (d - 97) = d
    omega
theorem PageOk.parts {q : Page} (h : PageOk q) : ∀ p ∈ q.pts, p.length ≤ 7 ∧ 32 ∉ p.cps.toList := fun p hp => by
  have n4 := h.n4
  rcases List.mem_cons.mp hp with rfl | hp
  · exact ⟨(show 1 ≤ 7 by decide), fun z => by have := List.mem_singleton.mp z; have := h.ask; omega⟩
  rcases List.mem_cons.mp hp with rfl | hp
  · exact ⟨(show 1 ≤ 7 by decide), fun z => by have := List.mem_singleton.mp z; omega⟩
  rcases List.mem_cons.mp hp with rfl | hp
  · refine ⟨?_, fun z => ?_⟩
    · show q.sz.toArray.size ≤ 7
      rw [List.size_toArray]
      have := h.sl
      omega
    · have := h.sd 32 z
      omega
  · obtain ⟨j, hj, ej⟩ := List.mem_iff_getElem.mp hp
    obtain ⟨c, rest, w⟩ := wordK_is (h.each j p (by rw [List.getElem?_eq_getElem hj, ej]))
    have := w.few
    refine ⟨by rw [w.len]; omega, fun z => ?_⟩
    rw [w.cs] at z
    rcases List.mem_cons.mp z with z | z
    · omega
    rcases List.mem_cons.mp z with z | z
    · have := w.c1
      omega
    · have := w.all 32 z
      omega
theorem PageOk.split {q : Page} (h : PageOk q) : Txt.split q.tx " " = q.pts := TL.split_join (y := " ") (s := 32) (S := []) rfl (by decide +kernel) (fun e => by cases e) fun p hp => (h.parts p hp).2
theorem join_few {sep : Str} : ∀ {ys : List Str} {n : Nat}, (∀ y ∈ ys, y.length ≤ n) → (Str.join sep ys).length ≤ ys.length * (n + sep.length)
  | [], _, _ => Nat.zero_le _
  | [y], n, h => by
    show y.length ≤ 1 * _
    have := h y (List.mem_cons_self ..)
    omega
  | y :: z :: r, n, h => by
    have ih := join_few (sep := sep) (ys := z :: r) (n := n) fun x hx => h x (List.mem_cons_of_mem _ hx)
    have := h y (List.mem_cons_self ..)
    show (y ++ sep ++ Str.join sep (z :: r)).length ≤ _
    rw [len_app, len_app, List.length_cons, Nat.add_mul]
    omega
theorem PageOk.len {q : Page} (h : PageOk q) : q.tx.length ≤ 56 := by
  have z := join_few (sep := " ") (ys := q.pts) (n := 7) fun p hp => (h.parts p hp).1
  have l : q.pts.length = q.ws.length + 3 := rfl
  have := h.n4
  rw [l, show (" " : Str).length = 1 from rfl] at z
  unfold Page.tx
  rw [TL.join_eq]
  omega
def sg1 : List Str := ["a 2 1111 a1bd b1c c1 d1b", "a 3 1111 a1bd b1c c1 d1b", "a 3 1112 a1bd b1c c1 d1bd"]
def sg2 : List Str := ["a 2 2 a1a", "a 2 3 a1a", "a 3 4 a1a", "a 2 1 a1a", "a 3 13 a1b b1b", "a 3 21 a1b b1a"]
def sg3 : List Str := ["a 3 11 a1b b1a", "a 3 1111 a1bd b2c c1 d1ab", "a 4 2111 a1bd b2c c1 d1ab"]
def sg4 : List Str := ["a 3 1111 a1bd b1c c1 d2b", "a 2 1111 a1bd b1c c1 d2b", "a 3 111 a1b b1*c c1"]
def sg5 : List Str := ["a 3 1121 a1bc b1d c1bc d1*", "a 4 1111 a1b b1c c1d d1*", "a 6 1211 a2bc b3d c1b d2a"]
def sg6 : List Str := ["a 1 211 a2b b1c c1", "c 3 212 a1*b b1ac c1bc", "b 4 112 a2c b1ab c1*"]
def sg7 : List Str := ["a 6 1112 a2abd b2c c1* d2bd"]
def scenesT : List Str := sg1 ++ sg2 ++ sg3 ++ sg4 ++ sg5 ++ sg6 ++ sg7
def scPages : List Page := [⟨97, 2, [49, 49, 49, 49], ["a1bd", "b1c", "c1", "d1b"]⟩, ⟨97, 3, [49, 49, 49, 49], ["a1bd", "b1c", "c1", "d1b"]⟩, ⟨97, 3, [49, 49, 49, 50], ["a1bd", "b1c", "c1", "d1bd"]⟩, ⟨97, 2, [50], ["a1a"]⟩, ⟨97, 2, [51], ["a1a"]⟩, ⟨97, 3, [52], ["a1a"]⟩, ⟨97, 2, [49], ["a1a"]⟩, ⟨97, 3, [49, 51], ["a1b", "b1b"]⟩, ⟨97, 3, [50, 49], ["a1b", "b1a"]⟩, ⟨97, 3, [49, 49], ["a1b", "b1a"]⟩, ⟨97, 3, [49, 49, 49, 49], ["a1bd", "b2c", "c1", "d1ab"]⟩, ⟨97, 4, [50, 49, 49, 49], ["a1bd", "b2c", "c1", "d1ab"]⟩, ⟨97, 3, [49, 49, 49, 49], ["a1bd", "b1c", "c1", "d2b"]⟩, ⟨97, 2, [49, 49, 49, 49], ["a1bd", "b1c", "c1", "d2b"]⟩, ⟨97, 3, [49, 49, 49], ["a1b", "b1*c", "c1"]⟩, ⟨97, 3, [49, 49, 50, 49], ["a1bc", "b1d", "c1bc", "d1*"]⟩, ⟨97, 4, [49, 49, 49, 49], ["a1b", "b1c", "c1d", "d1*"]⟩, ⟨97, 6, [49, 50, 49, 49], ["a2bc", "b3d", "c1b", "d2a"]⟩, ⟨97, 1, [50, 49, 49], ["a2b", "b1c", "c1"]⟩, ⟨99, 3, [50, 49, 50], ["a1*b", "b1ac", "c1bc"]⟩, ⟨98, 4, [49, 49, 50], ["a2c", "b1ab", "c1*"]⟩, ⟨97, 6, [49, 49, 49, 50], ["a2abd", "b2c", "c1*", "d2bd"]⟩]
theorem sc_told : scenesT = scPages.map Page.tx := by decide +kernel
theorem sc_pages : ∀ q ∈ scPages, pageB q = true := by decide +kernel
theorem scenes_page : ∀ x ∈ scenesT, ∃ q, PageOk q ∧ x = q.tx := fun x hx => by
  rw [sc_told] at hx
  obtain ⟨q, hq, rfl⟩ := List.mem_map.mp hx
  exact ⟨q, pageB_ok (sc_pages q hq), rfl⟩
def spSc : Sp := fun vs H Q _ => vs = [] ∧ ∀ (l : Addr) (H' : Hp), Same H H' → H' l = some (.lst (scenesT.map V.str)) → Q (.ref l) H'
/-- list.extend(written texts), a list of one's own -/
theorem ext_ss {K : PySem.W.Frag} {ss tt : List Str} {L : Addr} {σ : L2.St} {H0 H : Hp} {u : L2.TS} {D : Ends} (hσ : σ[0]? = some (some (.ref L))) (s0 : Same H0 H) (nL : H0 L = none) (eL : H L = some (.lst (ss.map V.str))) (few : ss.length + tt.length ≤ 1000)
    (k : ∀ H', Same H0 H' → H' L = some (.lst ((ss ++ tt).map V.str)) → u D σ H') : tSeq (tDrop (tBM K "list" rExtend (tVar 0) (tCons (tLst (tSs tt)) tNil))) u D σ H := by
  refine ⟨.ref L, hσ, .inl ⟨rfl, _, .inl (.inl eL)⟩, ?_⟩
  refine ss_all tt σ H _ ⟨by rw [List.length_map]; exact Nat.le_trans (show tt.length ≤ 1000 by omega) (by decide), fun b nb => ?_⟩
  have ne : L ≠ b := ne_of_none eL nb
  refine ⟨L, b, ss.map V.str, tt.map V.str, rfl, rfl, (upd_ne ne).trans eL, upd_same, by rw [List.length_map, List.length_map]; exact Nat.le_trans few (by decide), ?_⟩
  refine k _ (putS (s0.trans (same_new nb)) nL) ?_
  rw [upd_same, List.map_append]
section
variable {P : Program} {w : World} {K : PySem.W.Frag} {mg : Str → Option Value} {base : Heap}
theorem ok_sc {f : Addr} {fd : FuncData} (F : Fun K "_law_scenes" "_law_scenes" (topS 29) f fd) : FnOk P w K mg base CX0 1 f fd [] spSc := by
  refine F.ok scSc (fun vs H Q E h => ?_) (fun cdv A outer s H vs Q E hr h => ?_)
  · obtain ⟨rfl, _⟩ := h
    rfl
  · obtain ⟨rfl, q⟩ := h
    refine ⟨_, (pss_cons (ps_set (i := 0) scSc.nd rfl (.inl rfl) (pe_lst (pa_cons pe_str (pa_cons pe_str (pa_cons pe_str pa_nil)))))
      (pss_cons (ps_expr (pe_bm PySem.F.plainAttrs_list PySem.F.slot_list_extend PySem.F.type_list_extend mt_extend (pv 0) (pa_cons (pe_lst (pa_cons pe_str (pa_cons pe_str (pa_cons pe_str (pa_cons pe_str (pa_cons pe_str (pa_cons pe_str pa_nil))))))) pa_nil)))
      (pss_cons (ps_expr (pe_bm PySem.F.plainAttrs_list PySem.F.slot_list_extend PySem.F.type_list_extend mt_extend (pv 0) (pa_cons (pe_lst (pa_cons pe_str (pa_cons pe_str (pa_cons pe_str pa_nil)))) pa_nil)))
      (pss_cons (ps_expr (pe_bm PySem.F.plainAttrs_list PySem.F.slot_list_extend PySem.F.type_list_extend mt_extend (pv 0) (pa_cons (pe_lst (pa_cons pe_str (pa_cons pe_str (pa_cons pe_str pa_nil)))) pa_nil)))
      (pss_cons (ps_expr (pe_bm PySem.F.plainAttrs_list PySem.F.slot_list_extend PySem.F.type_list_extend mt_extend (pv 0) (pa_cons (pe_lst (pa_cons pe_str (pa_cons pe_str (pa_cons pe_str pa_nil)))) pa_nil)))
      (pss_cons (ps_expr (pe_bm PySem.F.plainAttrs_list PySem.F.slot_list_extend PySem.F.type_list_extend mt_extend (pv 0) (pa_cons (pe_lst (pa_cons pe_str (pa_cons pe_str (pa_cons pe_str pa_nil)))) pa_nil)))
      (pss_one (ps_ret (pe_op op_cat (pv 0) (pe_lst (pa_cons pe_str pa_nil))))))))))), ?_⟩
    refine asg_seq (show tLst (tSs sg1) _ _ _ from ss_all sg1 _ _ _ ⟨(show 3 ≤ sizeLine by decide), fun L nL => ?_⟩)
    dsimp only [gName, List.set]
    refine ext_ss (ss := sg1) (tt := sg2) (H0 := H) rfl (same_new nL) nL upd_same (by decide) fun H2 s2 e2 => ?_
    refine ext_ss (ss := sg1 ++ sg2) (tt := sg3) (H0 := H) rfl s2 nL e2 (by decide) fun H3 s3 e3 => ?_
    refine ext_ss (ss := sg1 ++ sg2 ++ sg3) (tt := sg4) (H0 := H) rfl s3 nL e3 (by decide) fun H4 s4 e4 => ?_
    refine ext_ss (ss := sg1 ++ sg2 ++ sg3 ++ sg4) (tt := sg5) (H0 := H) rfl s4 nL e4 (by decide) fun H5 s5 e5 => ?_
    refine ext_ss (ss := sg1 ++ sg2 ++ sg3 ++ sg4 ++ sg5) (tt := sg6) (H0 := H) rfl s5 nL e5 (by decide) fun H6 s6 e6 => ?_
    refine ⟨.ref L, rfl, (show tLst (tSs sg7) _ _ _ from ss_all sg7 _ _ _ ⟨(show 1 ≤ sizeLine by decide), fun b nb => ?_⟩)⟩
    have sb := same_new (o := .lst (sg7.map V.str)) nb
    refine ⟨L, b, _, _, rfl, rfl, sb _ _ e6, upd_same, (show 22 ≤ sizeLine by decide), fun p np => q p _ ((s6.trans sb).trans (same_new np)) ?_⟩
    rw [upd_same, ← List.map_append]
    rfl
end
end Kn


namespace Kn
open PySem PySem.Spec PyProof.Rows L2
abbrev nPa : List Str := ["_law_feed_here", "_law_many", "_law_signs", "_law_words", "_law_asker", "_law_sign", "_law_has", "_law_table", "_law_sizes", "_law_own"]
theorem scPa : FnScope nPa ["_law_feed_here"] (defScope (topS 30)) := ⟨rfl, rfl, rfl, by decide +kernel, rfl, by decide +kernel, by decide +kernel⟩
theorem draw_str {z : Int} {m b : Nat} (h0 : 0 ≤ z) (h1 : z < (m : Nat)) (h : b + m ≤ 10) : Str.ofString (toString ((b : Int) + z)) = ⟨#[48 + b + z.toNat]⟩ ∧ ((b : Int) + z).natAbs.log2 < 1920 := by
  obtain ⟨k, rfl⟩ := Int.eq_ofNat_of_zero_le h0
  have e : (b : Int) + (k : Nat) = ((b + k : Nat) : Int) := by omega
  rw [e, show 48 + b + ((k : Nat) : Int).toNat = 48 + (b + k) by show 48 + b + k = _; omega]
  have l : b + k < 10 := by omega
  generalize b + k = t at l
  have : t = 0 ∨ t = 1 ∨ t = 2 ∨ t = 3 ∨ t = 4 ∨ t = 5 ∨ t = 6 ∨ t = 7 ∨ t = 8 ∨ t = 9 := by omega
  rcases this with rfl | rfl | rfl | rfl | rfl | rfl | rfl | rfl | rfl | rfl <;> exact ⟨rfl, by decide⟩
def abN (n : Nat) : List Nat := (List.range n).map fun i => 97 + i
theorem abN_len (n : Nat) : (abN n).length = n := by unfold abN; rw [List.length_map, List.length_range]
theorem abN_get {n i d : Nat} (h : (abN n)[i]? = some d) : d = 97 + i ∧ i < n := by
  unfold abN at h
  obtain ⟨y, hy, rfl⟩ := map_get h
  have l := (List.getElem?_eq_some_iff.mp hy).1
  rw [List.length_range] at l
  rw [List.getElem?_range l] at hy
  cases hy
  exact ⟨rfl, l⟩
theorem abN_at {n i : Nat} (h : i < n) : (abN n)[i]? = some (97 + i) := by
  unfold abN
  rw [List.getElem?_map, List.getElem?_range h]
  rfl
theorem abN_nd (n : Nat) : (abN n).Nodup := List.pairwise_map.mpr (List.nodup_range.imp fun {a b} h e => h (by omega))
theorem abN_mem {n d : Nat} (h : d ∈ abN n) : 97 ≤ d ∧ d < 97 + n := by
  obtain ⟨i, hi⟩ := List.mem_iff_getElem?.mp h
  have := abN_get hi
  omega
theorem cut_ab {n : Nat} (h : n ≤ 4) : cutS "abcd" none (some (n : Nat)) = ⟨(abN n).toArray⟩ := by
  have : n = 0 ∨ n = 1 ∨ n = 2 ∨ n = 3 ∨ n = 4 := by omega
  rcases this with rfl | rfl | rfl | rfl | rfl <;> rfl
def spPa : Sp := fun vs H Q _ => ∃ (f a : Addr) (ns : List Int) (c : Nat), vs = [.ref f] ∧ Fd f a ns H c ∧ c + 60 < 100000 ∧ ∀ (q : Page) (H' : Hp), PageOk q → Keep f H H' → Fd f a ns H' (c + 50) → Q (.str q.tx) H'
theorem dig_fee {z2 : Int} (h0 : 0 ≤ z2) (h1 : z2 < 5) : ∃ m : Nat, atI [V.int 1, .int 1, .int 1, .int 2, .int 3] z2 = some (.int (m : Nat)) ∧ (m = 1 ∨ m = 2 ∨ m = 3) := by
  have : z2 = 0 ∨ z2 = 1 ∨ z2 = 2 ∨ z2 = 3 ∨ z2 = 4 := by omega
  rcases this with rfl | rfl | rfl | rfl | rfl
  · exact ⟨1, rfl, .inl rfl⟩
  · exact ⟨1, rfl, .inl rfl⟩
  · exact ⟨1, rfl, .inl rfl⟩
  · exact ⟨2, rfl, .inr (.inl rfl)⟩
  · exact ⟨3, rfl, .inr (.inr rfl)⟩
theorem dig_str {m : Nat} (h : m = 1 ∨ m = 2 ∨ m = 3) : Str.ofString (toString ((m : Nat) : Int)) = ⟨#[48 + m]⟩ ∧ ((m : Nat) : Int).natAbs.log2 < 1920 := by
  rcases h with rfl | rfl | rfl <;> exact ⟨rfl, by decide⟩
theorem wordK_made {n i m : Nat} {st : Str} {ds : List Nat} (hi : i < n) (hm : m = 1 ∨ m = 2 ∨ m = 3) (hs : st = "*" ∨ st = "") (hd : ds.Sublist (abN n)) : wordK n i ((((⟨#[97 + i]⟩ : Str) ++ ⟨#[48 + m]⟩) ++ st) ++ ⟨ds.toArray⟩) = true := by
  have nd := (abN_nd n).sublist hd
  have dm : ∀ d ∈ ds, 97 ≤ d ∧ d < 97 + n := fun d h => abN_mem (hd.subset h)
  have e : ((((⟨#[97 + i]⟩ : Str) ++ ⟨#[48 + m]⟩) ++ st) ++ ⟨ds.toArray⟩).cps.toList = (97 + i) :: (48 + m) :: ((if st = "*" then [42] else []) ++ ds) := by
    rw [app_cps, app_cps, app_cps]
    rcases hs with rfl | rfl <;> rfl
  refine (WordK.mk (c := 48 + m) e ⟨by omega, by omega⟩ (fun d hd => ?_) ?_).ok
  · rcases List.mem_append.mp hd with h | h
    · split at h
      · exact .inl (List.mem_singleton.mp h)
      · cases h
    · exact .inr (dm d h)
  · split
    · refine List.nodup_cons.mpr ⟨fun h => ?_, nd⟩
      have := dm 42 h
      omega
    · exact nd
section
variable {P : Program} {w : World} {K : PySem.W.Frag} {mg : Str → Option Value} {base : Heap}
theorem ok_pa {g gD : Addr} {fd fdD : FuncData} (F : Fun K "_law_page" "_law_page" (topS 30) g fd) (D : Def K mg "_law_draw" 23 ["_law_feed_here", "_law_many"] gD fdD) (GD : FnOk P w K mg base CX0 1 gD fdD ["_law_feed_here", "_law_many"] spDraw) (mz : mg "str" = none) :
    FnOk P w K mg base CX0 2 g fd ["_law_feed_here"] spPa := by
  refine F.ok scPa (fun vs H Q E h => ?_) (fun cdv A outer s H vs Q E hr h => ?_)
  · obtain ⟨f, a, ns, c, rfl, _⟩ := h
    rfl
  · obtain ⟨f, a, ns, c, rfl, fd0, hc, q⟩ := h
    refine ⟨_, (pss_cons (ps_set (i := 1) scPa.nd rfl (.inl rfl) (pe_op op_add pe_int (pe_call GD (hr.mono (by decide)) (by rfl) D.m D.F.kp D.b .nil pass0 (pa_cons (pv 0) (pa_cons pe_int pa_nil)))))
      (pss_cons (ps_par (i := 2) (j := 3) (by rfl) scPa.nd rfl rfl (by decide) rfl rfl (pa_cons (pe_slice sl_str pe_str po_none (po_some (pv 1))) (pa_cons (pe_lst pa_nil) pa_nil)) (by rfl))
      (pss_cons (ps_set (i := 4) scPa.nd rfl (.inl rfl) (pe_ix ix_str (pv 2) (pe_call GD (hr.mono (by decide)) (by rfl) D.m D.F.kp D.b .nil pass0 (pa_cons (pv 0) (pa_cons (pv 1) pa_nil))) (fun _ _ => rfl)))
      (pss_cons (ps_for PassesOwn.never rfl (pi_str (pv 2)) (pg_name (i := 5) scPa.nd rfl (.inl rfl)) (pss_cons (ps_set (i := 6) scPa.nd rfl (.inl rfl) (pe_ifExp (PW.pt (pw_and (pt_cmpR op_ne (pv 5) (pv 4) (nomark _)) (pw_and1 (pt_cmpR op_eq (pe_call GD (hr.mono (by decide)) (by rfl) D.m D.F.kp D.b .nil pass0 (pa_cons (pv 0) (pa_cons pe_int pa_nil))) pe_int (nomark _))))) pe_str pe_str))
      (pss_cons (ps_set (i := 7) scPa.nd rfl (.inl rfl) (pe_join pe_str (pe_lc (own := [("_law_own", 9)]) (g := gName 9) (by rfl) scPa.nd (pi_str (pv 2)) (blkOk_by (own := [("_law_own", 9)]) (N := nPa) (sc := defScope (topS 30)) (by decide +kernel)) (fun _ _ _ _ _ => (pg_name (i := 9) scPa.nd rfl (Or.inl rfl))) (fun _ _ _ _ _ => (pts_one (pt_cmpR op_lt (pe_call GD (hr.mono (by decide)) (by rfl) D.m D.F.kp D.b .nil pass0 (pa_cons (pv 0) (pa_cons pe_int pa_nil))) pe_int (nomark _)))) (fun _ _ _ _ _ => (pv 9)))))
      (pss_one (ps_expr (pe_bm PySem.F.plainAttrs_list PySem.F.slot_list_append PySem.F.type_list_append mt_append (pv 3) (pa_cons (pe_op op_add_str (pe_op op_add_str (pe_op op_add_str (pv 5) (pe_callTy call_str_int (by rfl) mz (by decide +kernel) (pa_cons (pe_ix ix_list (pe_lst (pa_cons pe_int (pa_cons pe_int (pa_cons pe_int (pa_cons pe_int (pa_cons pe_int pa_nil)))))) (pe_call GD (hr.mono (by decide)) (by rfl) D.m D.F.kp D.b .nil pass0 (pa_cons (pv 0) (pa_cons pe_int pa_nil))) (fun _ _ => rfl)) pa_nil))) (pv 6)) (pv 7)) pa_nil)))))))
      (pss_cons (ps_set (i := 8) scPa.nd rfl (.inl rfl) (pe_join pe_str (pe_lc (own := [("_law_sign", 5)]) (g := gName 5) (by rfl) scPa.nd (pi_str (pv 2)) (blkOk_by (own := [("_law_sign", 5)]) (N := nPa) (sc := defScope (topS 30)) (by decide +kernel)) (fun _ _ _ _ _ => (pg_name (i := 5) scPa.nd rfl (Or.inl rfl))) (fun _ _ _ _ _ => pts_nil) (fun _ _ _ _ _ => (pe_callTy call_str_int (by rfl) mz (by decide +kernel) (pa_cons (pe_op op_add pe_int (pe_call GD (hr.mono (by decide)) (by rfl) D.m D.F.kp D.b .nil pass0 (pa_cons (pv 0) (pa_cons pe_int pa_nil)))) pa_nil))))))
      (pss_one (ps_ret (pe_join pe_str (pe_op op_cat (pe_lst (pa_cons (pv 4) (pa_cons (pe_callTy call_str_int (by rfl) mz (by decide +kernel) (pa_cons (pe_call GD (hr.mono (by decide)) (by rfl) D.m D.F.kp D.b .nil pass0 (pa_cons (pv 0) (pa_cons pe_int pa_nil))) pa_nil)) (pa_cons (pv 8) pa_nil)))) (pv 3)))))))))), ?_⟩
    refine asg_seq ⟨.ref f, rfl, f, a, ns, c, 4, rfl, by omega, by omega, fd0, by omega, fun z H1 z0 z4 k1 fd1 => ⟨1, z, rfl, rfl, ?_⟩⟩
    obtain ⟨n', rfl⟩ := Int.eq_ofNat_of_zero_le z0
    dsimp only [gName, List.set]
    rw [show (1 : Int) + (n' : Nat) = ((n' + 1 : Nat) : Int) by omega]
    have n1 : 1 ≤ n' + 1 := by omega
    have n4 : n' + 1 ≤ 4 := by omega
    generalize n' + 1 = n at n1 n4 ⊢
    refine ⟨.int (n : Nat), rfl, (n : Nat), rfl, "abcd", rfl, (show 4 ≤ sizeLine by decide), (show 0 ≤ sizeLine by decide), fun L nL => ⟨_, _, rfl, ?_⟩⟩
    rw [cut_ab n4]
    obtain ⟨m1, m2⟩ := fd1.free nL
    have fd2 : Fd f a ns (upd H1 L (.lst [])) (c + 1) := fd1.own m1 m2
    have k2 : Keep f H (upd H1 L (.lst [])) := k1.trans (keep_same (same_new nL))
    have eL : (upd H1 L (.lst [])) L = some (.lst []) := upd_same
    have nL0 := ne_free fd1 k1 nL
    have neLf : L ≠ f := m1.symm
    generalize upd H1 L (.lst []) = H2 at fd2 k2 eL ⊢
    dsimp only [List.set]
    refine asg_seq ⟨.str ⟨(abN n).toArray⟩, rfl, .ref f, rfl, .int (n : Nat), rfl, f, a, ns, c + 1, (n : Nat), rfl, by omega, by omega, fd2, by omega, fun z2 H3 y0 y4 k3 fd3 => ?_⟩
    obtain ⟨i2, rfl⟩ := Int.eq_ofNat_of_zero_le y0
    have li2 : i2 < n := by omega
    have lsg : (⟨(abN n).toArray⟩ : Str).length ≤ sizeLine := by
      show (abN n).toArray.size ≤ _
      rw [List.size_toArray, abN_len]
      exact Nat.le_trans n4 (by decide)
    refine ⟨⟨(abN n).toArray⟩, (i2 : Nat), 97 + i2, rfl, rfl, lsg, atI_nat (abN_at li2), ?_⟩
    dsimp only [gName, List.set]
    have eL3 := k3 _ _ neLf eL
    have k13 := k2.trans k3
    clear k3 fd2 eL k2 fd1 k1 nL
    refine ⟨.str ⟨(abN n).toArray⟩, rfl, _, rfl, ?_⟩
    have size : (abN n).toArray.size = n := by rw [List.size_toArray, abN_len]
    refine for_it walk_str (fun i σ G => ∃ (cc : Nat) (y5 y6 y7 : Option V) (ws : List Str), σ = [some (.ref f), some (.int (n : Nat)), some (.str ⟨(abN n).toArray⟩), some (.ref L), some (.str ⟨#[97 + i2]⟩), y5, y6, y7, none, none] ∧ cc ≤ c + 2 + 6 * i ∧ Fd f a ns G cc ∧ Keep f H G ∧ G L = some (.lst (ws.map V.str)) ∧ ws.length = i ∧ ∀ (j : Nat) (x : Str), ws[j]? = some x → wordK n j x = true)
      ⟨c + 2, none, none, none, [], rfl, by omega, fd3, k13, eL3, rfl, fun j x h => by cases h⟩ (fun _ _ _ _ _ => trivial) ?_ ?_
    · rintro i x σ G G' hi ⟨cc, y5, y6, y7, ws, rfl, lc, fdG, kG, eLG, lw, each⟩ ⟨rfl, d, hd', rfl⟩
      have hd' : (abN n)[i]? = some d := by
        have z : ((abN n).toArray)[i]? = some d := hd'
        rw [List.getElem?_toArray] at z
        exact z
      obtain ⟨rfl, hin⟩ := abN_get hd'
      dsimp only [gName, List.set]
      refine seq_mid (fun σ G => ∃ (st : Str) (c2 : Nat), σ = [some (.ref f), some (.int (n : Nat)), some (.str ⟨(abN n).toArray⟩), some (.ref L), some (.str ⟨#[97 + i2]⟩), some (.str ⟨#[97 + i]⟩), some (.str st), y7, none, none] ∧ (st = "*" ∨ st = "") ∧ c2 ≤ cc + 1 ∧ Fd f a ns G c2 ∧ Keep f H G ∧ G L = some (.lst (ws.map V.str))) ?_ ?_
      · rintro σ G ⟨st, c2, rfl, hst, lc2, fdG, kG, eLG⟩
        refine asg_seq ⟨⟨_, rfl⟩, .str ⟨(abN n).toArray⟩, rfl, ⟨_, rfl, fun L2 nL2 => ?_⟩⟩
        obtain ⟨g1, g2⟩ := fdG.free nL2
        have neLL : L ≠ L2 := ne_of_none eLG nL2
        have nL20 : H L2 = none := ne_free fdG kG nL2
        have ne2f : L2 ≠ f := g1.symm
        refine lc_it walk_str (fun j G5 => ∃ (c3 : Nat) (ds : List Nat), c3 ≤ c2 + j ∧ Keep f H G5 ∧ Fd f a ns G5 c3 ∧ G5 L2 = some (.lst ((ds.map fun d => (⟨#[d]⟩ : Str)).map V.str)) ∧ G5 L = some (.lst (ws.map V.str)) ∧ ds.Sublist ((abN n).take j))
          ⟨c2, [], by omega, kG.trans (keep_same (same_new nL2)), fdG.own g1 g2, upd_same, (upd_ne neLL).trans eLG, List.Sublist.slnil⟩ (fun _ _ _ _ => trivial) ?_ ?_
        · rintro j xv G5 G6 hj ⟨c3, ds, lc3, k6, fd5, eL5, eLL, hds⟩ ⟨rfl, d, hd', rfl⟩
          have hd' : (abN n)[j]? = some d := by
            have z : ((abN n).toArray)[j]? = some d := hd'
            rw [List.getElem?_toArray] at z
            exact z
          have jn := (abN_get hd').2
          have ld : ds.length ≤ j := by
            have := hds.length_le
            have := List.length_take_le j (abN n)
            omega
          have tk : (abN n).take (j + 1) = (abN n).take j ++ [d] := by rw [List.take_add_one, hd']; rfl
          refine ⟨rfl, ?_⟩
          refine ⟨.ref f, rfl, f, a, ns, c3, 5, rfl, by omega, by omega, fd5, by omega, fun z5 G7 y0 y5 k7 fd7 => ⟨z5, 2, rfl, rfl, _, rfl, ?_⟩⟩
          have eL7 := k7 _ _ ne2f eL5
          have eLL7 := k7 _ _ neLf eLL
          cases zt : decide (z5 < 2)
          · exact iteF ⟨c3 + 1, ds, by omega, k6.trans k7, fd7, eL7, eLL7, by rw [tk]; exact hds.trans (List.sublist_append_left _ _)⟩
          · refine iteT ⟨.str ⟨#[d]⟩, rfl, _, eL7, small' (by rw [List.length_map, List.length_map]; omega), c3 + 1, ds ++ [d], by omega, keep_put (k6.trans k7) nL20, fd7.own g1 g2, ?_, (upd_ne neLL).trans eLL7, by rw [tk]; exact hds.append (List.Sublist.refl _)⟩
            rw [upd_same, List.map_append, List.map_append]
            rfl
        · rintro G5 ⟨c3, ds, lc3, k6, fd5, eL5, eLL, hds⟩
          have lc3 : c3 ≤ c2 + n := by
            have lc3 : c3 ≤ c2 + (abN n).toArray.size := lc3
            omega
          have hds : ds.Sublist (abN n) := hds.trans (List.take_sublist _ _)
          have ld : ds.length ≤ n := by
            have := hds.length_le
            rw [abN_len] at this
            exact this
          refine ⟨"", L2, ds.map fun d => (⟨#[d]⟩ : Str), rfl, rfl, .inl (.inl (.inl eL5)), ?_, ?_⟩
          · rw [sum_one]
            show ds.length + (ds.map fun d => (⟨#[d]⟩ : Str)).length * 0 ≤ _
            omega
          rw [join_one]
          dsimp only [gName, List.set]
          refine ⟨.ref L, rfl, .inl ⟨rfl, _, .inl (.inl eLL)⟩, .str ⟨#[97 + i]⟩, rfl, (show 5 ≤ sizeLine by decide), fun B nB => ?_⟩
          obtain ⟨b1, b2⟩ := fd5.free nB
          have neLB : L ≠ B := ne_of_none eLL nB
          refine ⟨.ref f, rfl, f, a, ns, c3, 5, rfl, by omega, by omega, fd5.own b1 b2, by omega, fun z6 H6 zz0 zz5 k8 fd8 => ?_⟩
          have eB : H6 B = some (.lst [.int 1, .int 1, .int 1, .int 2, .int 3]) := k8 _ _ b1.symm upd_same
          have eL8 : H6 L = some (.lst (ws.map V.str)) := k8 _ _ neLf ((upd_ne neLB).trans eLL)
          have k9 : Keep f H H6 := (k6.trans (keep_same (same_new nB))).trans k8
          obtain ⟨m, hm, m3⟩ := dig_fee zz0 zz5
          obtain ⟨ms, ml'⟩ := dig_str m3
          have lst : st.length ≤ 1 := by rcases hst with rfl | rfl <;> decide
          have lds : (⟨ds.toArray⟩ : Str).length = ds.length := by
            show ds.toArray.size = _
            rw [List.size_toArray]
          have l1 : (⟨#[97 + i]⟩ : Str).length = 1 := rfl
          have l2 : (⟨#[48 + m]⟩ : Str).length = 1 := rfl
          have big : 1000 ≤ sizeLine := by decide
          refine ⟨B, _, z6, .int (m : Nat), rfl, rfl, .inl (.inl eB), hm, (m : Nat), rfl, ml', ?_⟩
          rw [ms]
          refine ⟨_, _, rfl, rfl, (by rw [l1, l2]; omega), .str st, rfl, _, _, rfl, rfl, (by rw [len_app, l1, l2]; omega), .str ⟨ds.toArray⟩, rfl, _, _, rfl, rfl, (by rw [len_app, len_app, l1, l2, lds]; omega), L, _, _, rfl, rfl, eL8, small' (by rw [List.length_map]; omega), ?_⟩
          refine ⟨c3 + 1, _, _, _, ws ++ [(((⟨#[97 + i]⟩ : Str) ++ ⟨#[48 + m]⟩) ++ st) ++ ⟨ds.toArray⟩], rfl, by omega, fd8.own m1 m2, keep_put k9 nL0, ?_, by rw [List.length_append, lw]; rfl, fun j x hx => ?_⟩
          · rw [upd_same, List.map_append]
            rfl
          · rcases Nat.lt_or_ge j ws.length with h | h
            · rw [List.getElem?_append_left h] at hx
              exact each j x hx
            · rw [List.getElem?_append_right h] at hx
              have j0 : j - ws.length = 0 := by
                have := (List.getElem?_eq_some_iff.mp hx).1
                rw [List.length_singleton] at this
                omega
              rw [j0] at hx
              obtain rfl := Option.some.inj hx
              obtain rfl : j = i := by omega
              exact wordK_made hin m3 hst hds
      · intro R k
        refine ⟨.str ⟨#[97 + i]⟩, rfl, .str ⟨#[97 + i2]⟩, rfl, rfl, _, rfl, ?_⟩
        cases zz : decide (V.str ⟨#[97 + i]⟩ = V.str ⟨#[97 + i2]⟩)
        · refine iteT ⟨.ref f, rfl, f, a, ns, cc, 5, rfl, by omega, by omega, fdG, by omega, fun z5 G7 y0 y5 k7 fd7 => ⟨rfl, _, rfl, ?_⟩⟩
          have eL7 := k7 _ _ neLf eLG
          cases zq : decide (V.int z5 = V.int 0)
          · exact iteF (k _ _ ⟨"", cc + 1, rfl, .inr rfl, by omega, fd7, kG.trans k7, eL7⟩)
          · exact iteT (k _ _ ⟨"*", cc + 1, rfl, .inl rfl, by omega, fd7, kG.trans k7, eL7⟩)
        · exact iteF (k _ _ ⟨"", cc, rfl, .inr rfl, by omega, fdG, kG, eLG⟩)
    · rintro σ G ⟨cc, y5, y6, y7, ws, rfl, lc, fdG, kG, eLG, lw, each⟩
      have lw : ws.length = n := lw.trans size
      have lc : cc ≤ c + 2 + 6 * n := by
        have lc : cc ≤ c + 2 + 6 * (abN n).toArray.size := lc
        omega
      dsimp only
      refine asg_seq ⟨⟨_, rfl⟩, .str ⟨(abN n).toArray⟩, rfl, ⟨_, rfl, fun L2 nL2 => ?_⟩⟩
      obtain ⟨g1, g2⟩ := fdG.free nL2
      have neLL : L ≠ L2 := ne_of_none eLG nL2
      have nL20 : H L2 = none := ne_free fdG kG nL2
      have ne2f : L2 ≠ f := g1.symm
      refine lc_it walk_str (fun j G5 => ∃ (ds : List Nat), Keep f H G5 ∧ Fd f a ns G5 (cc + j) ∧ G5 L2 = some (.lst ((ds.map fun d => (⟨#[d]⟩ : Str)).map V.str)) ∧ G5 L = some (.lst (ws.map V.str)) ∧ ds.length = j ∧ ∀ d ∈ ds, 49 ≤ d ∧ d ≤ 52)
        ⟨[], kG.trans (keep_same (same_new nL2)), fdG.own g1 g2, upd_same, (upd_ne neLL).trans eLG, rfl, fun d h => by cases h⟩ (fun _ _ _ _ => trivial) ?_ ?_
      · rintro j xv G5 G6 hj ⟨ds, k6, fd5, eL5, eLL, ld, hds⟩ ⟨rfl, d, hd', rfl⟩
        have hd' : (abN n)[j]? = some d := by
          have z : ((abN n).toArray)[j]? = some d := hd'
          rw [List.getElem?_toArray] at z
          exact z
        have jn := (abN_get hd').2
        refine ⟨rfl, ?_⟩
        dsimp only [tYes]
        refine iteT ?_
        refine ⟨.ref f, rfl, f, a, ns, cc + j, 3, rfl, by omega, by omega, fd5, by omega, fun z5 G7 y0 y3 k7 fd7 => ⟨1, z5, rfl, rfl, 1 + z5, rfl, ?_⟩⟩
        obtain ⟨ms, ml'⟩ := draw_str (b := 1) (m := 3) y0 y3 (by decide)
        refine ⟨ml', ?_⟩
        have ms : Str.ofString (toString (1 + z5)) = ⟨#[49 + z5.toNat]⟩ := ms
        rw [ms]
        have eL7 := k7 _ _ ne2f eL5
        have eLL7 := k7 _ _ neLf eLL
        refine ⟨_, eL7, small' (by rw [List.length_map, List.length_map]; omega), ds ++ [49 + z5.toNat], keep_put (k6.trans k7) nL20, fd7.own g1 g2, ?_, (upd_ne neLL).trans eLL7, by rw [List.length_append, ld]; rfl, fun d' h => ?_⟩
        · rw [upd_same, List.map_append, List.map_append]
          rfl
        · rcases List.mem_append.mp h with h | h
          · exact hds d' h
          · rw [List.mem_singleton.mp h]
            omega
      · rintro G5 ⟨ds, k6, fd5, eL5, eLL, ld, hds⟩
        have ld : ds.length = n := ld.trans size
        have fd5 : Fd f a ns G5 (cc + n) := by
          have fd5 : Fd f a ns G5 (cc + (abN n).toArray.size) := fd5
          rw [size] at fd5
          exact fd5
        refine ⟨"", L2, ds.map fun d => (⟨#[d]⟩ : Str), rfl, rfl, .inl (.inl (.inl eL5)), ?_, ?_⟩
        · rw [sum_one]
          show ds.length + (ds.map fun d => (⟨#[d]⟩ : Str)).length * 0 ≤ _
          omega
        rw [join_one]
        dsimp only [gName, List.set]
        refine ⟨⟨_, rfl⟩, .str ⟨#[97 + i2]⟩, rfl, .ref f, rfl, f, a, ns, cc + n, 7, rfl, by omega, by omega, fd5, by omega, fun z5 G7 y0 y7 k7 fd7 => ⟨z5, rfl, ?_⟩⟩
        obtain ⟨ms, ml'⟩ := draw_str (b := 0) (m := 7) y0 y7 (by decide)
        rw [show ((0 : Nat) : Int) + z5 = z5 by omega] at ms ml'
        refine ⟨ml', ?_⟩
        rw [ms]
        refine ⟨.str ⟨ds.toArray⟩, rfl, (show 3 ≤ sizeLine by decide), fun B nB => ?_⟩
        have eLL7 := k7 _ _ neLf eLL
        obtain ⟨b1, b2⟩ := fd7.free nB
        have neLB : L ≠ B := ne_of_none eLL7 nB
        refine ⟨.ref L, rfl, B, L, _, _, rfl, rfl, upd_same, (upd_ne neLB).trans eLL7, ?_, fun C nC => ?_⟩
        · rw [List.length_map, lw]
          exact Nat.le_trans (show 3 + n ≤ 1000 by omega) (by decide)
        have sC := same_new (o := .lst ([V.str ⟨#[97 + i2]⟩, .str ⟨#[48 + 0 + z5.toNat]⟩, .str ⟨ds.toArray⟩] ++ ws.map V.str)) nC
        have kC := ((k6.trans k7).trans (keep_same (same_new (o := .lst [V.str ⟨#[97 + i2]⟩, .str ⟨#[48 + 0 + z5.toNat]⟩, .str ⟨ds.toArray⟩]) nB))).trans (keep_same sC)
        have fdC := ((fd7.own (D := B) (o := .lst [V.str ⟨#[97 + i2]⟩, .str ⟨#[48 + 0 + z5.toNat]⟩, .str ⟨ds.toArray⟩]) b1 b2).same sC)
        have ok : PageOk ⟨97 + i2, z5.toNat, ds, ws⟩ := ⟨by show 1 ≤ ws.length; omega, by show ws.length ≤ 4; omega, by show 97 ≤ 97 + i2 ∧ 97 + i2 < 97 + ws.length; omega, by show z5.toNat ≤ 6; omega, by show ds.length = ws.length; omega, hds, fun j x hx => by show wordK ws.length j x = true; rw [lw]; exact each j x hx⟩
        refine ⟨" ", C, Page.pts ⟨97 + i2, z5.toNat, ds, ws⟩, rfl, rfl, .inl (.inl (.inl ?_)), ?_, ?_⟩
        · rw [upd_same]
          unfold Page.pts
          rw [Nat.add_zero]
          rfl
        · have z := sum_le (n := 7) (Page.pts ⟨97 + i2, z5.toNat, ds, ws⟩)
          have z2 : ∀ ys : List Str, (∀ y ∈ ys, y.length ≤ 7) → (ys.map (·.length)).sum ≤ ys.length * 7 := fun ys => by
            induction ys with
            | nil => exact fun _ => Nat.zero_le _
            | cons y r ih =>
              intro h
              have := ih fun v hv => h v (List.mem_cons_of_mem _ hv)
              have := h y (List.mem_cons_self ..)
              rw [List.map_cons, List.sum_cons, List.length_cons, Nat.add_mul]
              omega
          have z3 := z2 _ fun p hp => (ok.parts p hp).1
          have l : (Page.pts ⟨97 + i2, z5.toNat, ds, ws⟩).length = ws.length + 3 := rfl
          rw [l] at z3 ⊢
          show _ + (ws.length + 3) * 1 ≤ _
          omega
        · exact q _ _ ok kC (fdC.more (by omega))
end
end Kn


namespace Kn
open PySem PySem.Spec PyProof.Rows L2
/-! ### text.replace where the tokens are known -/
section
variable {X : Cx} {pins : List (Addr × Obj)} {σ : L2.St} {H : Hp} {s : Shared}
/-- the name x holds a text whose token is out -/
def Tk (X : Cx) (x : Str) (s : Shared) : Prop := ∃ m z t, s.heap.Ns X.env.locals m ∧ m x = some (Value.str z t) ∧ t ≠ 0 ∧ t < s.toks
theorem Tk.go {x : Str} {s s' : Shared} (h : Tk X x s) (hk : ∀ b o, s.heap.get? b = some o → s'.heap.get? b = some o) (ht : s.toks ≤ s'.toks) : Tk X x s' :=
  let ⟨m, z, t, a, b, c, d⟩ := h; ⟨m, z, t, a.keeps hk, b, c, Nat.lt_of_lt_of_le d ht⟩
/-- a cut of a text in a slot, with what is written as its ends -/
theorem raw_cut {i : Nat} {x : Str} {z : Str} {lo hi : Option Expr} {l u : Option Int} {p1 p2 pos : Pos} {Q E : Value → Shared → Prop} (hN : X.N[i]? = some x) (hv : Vis X.env.scope x) (I : Inv X pins σ H s) (hσ : σ[i]? = some (some (.str z))) (hz : z.length ≤ sizeLine)
    (hlo : ∀ (s1 : Shared) (R : Value → Shared → Prop), (∀ lv : Option (Int × Tok), lv.map (·.1) = l → ∀ k, s1.toks ≤ k → R (partValue lv) { s1 with toks := k }) → wpAny (model X.prog X.w) X.A (evalPart lo X.env) R E s1)
    (hhi : ∀ (s1 : Shared) (R : Value → Shared → Prop), (∀ lv : Option (Int × Tok), lv.map (·.1) = u → ∀ k, s1.toks ≤ k → R (partValue lv) { s1 with toks := k }) → wpAny (model X.prog X.w) X.A (evalPart hi X.env) R E s1)
    (fin : ∀ t h' k, (∀ b o, s.heap.get? b = some o → h'.get? b = some o) → s.toks ≤ k → Q (.str (cutS z l u) t) { s with heap := h', toks := k })
    (hd : (x == ("__debug__" : Str)) = false := by decide) (hcd : (x == ("__classdict__" : Str)) = false := by decide)
    (ht : ∀ o r, letTemporaryGo (.Name x p1) o r = pure () := by intro _ _; rfl) :
    wpAny (model X.prog X.w) X.A (eval (.Subscript (.Name x p1) (.Slice lo hi none p2) pos) X.env) Q E s := by
  refine wpAny_Subscript_str_slice (raw_name hN hv I hσ (fun v r => ?_) hd hcd) ht
  obtain ⟨t, rfl⟩ := r
  refine hlo _ _ fun lv el k1 hk1 => hhi _ _ fun uv eu k2 hk2 => ⟨z, t, lv, uv, rfl, rfl, rfl, ?_⟩
  have hl : (PySem.StrLaws.sliceText z l u).length ≤ sizeLine := by
    rw [sliceText_cut]
    exact Nat.le_trans (cutS_length z _ _) hz
  have keep : ∀ b o, s.heap.get? b = some o → (s.heap.push { cls := .type "slice", data := .fields #[partValue lv, partValue uv, .none] }).get? b = some o := fun b o e => Heap.get?_push_of_some _ e
  have f := fun t k hk => fin t _ k keep hk
  rw [← sliceText_cut] at f
  unfold PySem.StrLaws.sliceText at f hl
  subst el eu
  show Made.post (if ((1 : Int) == 1 && (Builtin.Str.strSliceIndices (lv.map (·.1)) (uv.map (·.1)) 1 z.length).length == z.length) = true then Made.val (.str z t)
    else Made.str ⟨((Builtin.Str.strSliceIndices (lv.map (·.1)) (uv.map (·.1)) 1 z.length).filterMap (z.cps[·]?)).toArray⟩) Q _
  by_cases c : ((1 : Int) == 1 && (Builtin.Str.strSliceIndices (lv.map (·.1)) (uv.map (·.1)) 1 z.length).length == z.length) = true
  · rw [if_pos c] at f ⊢
    exact f _ k2 (Nat.le_trans hk1 hk2)
  · rw [if_neg c] at f hl ⊢
    exact ⟨hl, f _ (k2 + 1) (Nat.le_trans (Nat.le_trans hk1 hk2) (Nat.le_succ k2))⟩
theorem part_none {E : Value → Shared → Prop} (s1 : Shared) (R : Value → Shared → Prop) (k : ∀ lv : Option (Int × Tok), lv.map (·.1) = none → ∀ k, s1.toks ≤ k → R (partValue lv) { s1 with toks := k }) : wpAny (model X.prog X.w) X.A (evalPart none X.env) R E s1 := by
  rw [evalPart_none]
  exact wpAny_pure (k none rfl s1.toks (Nat.le_refl _))
theorem part_int {E : Value → Shared → Prop} {n : Int} {j : Nat} {c : Pos} (s1 : Shared) (R : Value → Shared → Prop) (k : ∀ lv : Option (Int × Tok), lv.map (·.1) = some n → ∀ k, s1.toks ≤ k → R (partValue lv) { s1 with toks := k }) :
    wpAny (model X.prog X.w) X.A (evalPart (some (.Constant (.int n) j c)) X.env) R E s1 := by
  rw [evalPart_some]
  exact wpAny_Constant_int (k (some (n, s1.toks)) rfl (s1.toks + 1) (Nat.le_succ _))
/-- a text without a sign -/
def strike (x : Str) (c : Nat) : Str := Txt.replace x ⟨#[c]⟩ ""
/-- a word with a letter more or less, behind its first two signs -/
def togW (x : Str) (c : Nat) : Str := cutS x none (some 2) ++ (if decide (c ∈ (cutS x (some 2) none).cps.toList) = true then strike (cutS x (some 2) none) c else cutS x (some 2) none ++ ⟨#[c]⟩)
/-- t1[:2] + (t1[2:].replace(t2, '') if t2 in t1[2:] else t1[2:] + t2) -/
theorem raw_tog {io is : Nat} {xo xs : Str} {x : Str} {c : Nat} {o1 o2 o3 o4 q1 q2 q3 q4 q5 r1 r2 r3 r4 s1 s2 s3 c1 c2 c3 c4 e1 pa pc pi pb pt : Pos} {j1 j2 j3 j4 j5 : Nat} {Q : VK}
    (hNo : X.N[io]? = some xo) (hvo : Vis X.env.scope xo) (hNs : X.N[is]? = some xs) (hks : X.env.scope.names.lookup xs = some .local) (I : Inv X pins σ H s) (tk : Tk X xs s) (ho : σ[io]? = some (some (.str x))) (hs : σ[is]? = some (some (.str ⟨#[c]⟩))) (hx : x.length ≤ 1000) (q : Q (.str (togW x c)) H)
    (hdo : (xo == ("__debug__" : Str)) = false := by decide) (hco : (xo == ("__classdict__" : Str)) = false := by decide) (hds : (xs == ("__debug__" : Str)) = false := by decide) (hcs : (xs == ("__classdict__" : Str)) = false := by decide)
    (hbase : attributeBase (.Subscript (.Name xo o3) (.Slice (some (.Constant (.int 2) j3 c3)) none none q3) r3) "replace" X.env (eval (.Subscript (.Name xo o3) (.Slice (some (.Constant (.int 2) j3 c3)) none none q3) r3) X.env) = eval (.Subscript (.Name xo o3) (.Slice (some (.Constant (.int 2) j3 c3)) none none q3) r3) X.env := by rfl)
    (hst : starEach [.Name xs s2, .Constant (.str "") j5 e1] X.env = [(false, eval (.Name xs s2) X.env), (false, eval (.Constant (.str "") j5 e1) X.env)] := by rfl) (hline : (pa.endLine == pc.line) = true := by rfl) :
    wpAny (model X.prog X.w) X.A (eval (.BinOp (.Subscript (.Name xo o1) (.Slice none (some (.Constant (.int 2) j1 c1)) none q1) r1) .Add
      (.IfExp (.Compare (.Name xs s1) [.In] [.Subscript (.Name xo o2) (.Slice (some (.Constant (.int 2) j2 c2)) none none q2) r2] pi)
        (.Call (.Attribute (.Subscript (.Name xo o3) (.Slice (some (.Constant (.int 2) j3 c3)) none none q3) r3) "replace" pa) [.Name xs s2, .Constant (.str "") j5 e1] [] pc)
        (.BinOp (.Subscript (.Name xo o4) (.Slice (some (.Constant (.int 2) j4 c4)) none none q4) r4) .Add (.Name xs s3) pb) pt) q5) X.env) (EP X pins σ Q) X.xe s := by
  have hvs : Vis X.env.scope xs := .inl hks
  have hzl : x.length ≤ sizeLine := Nat.le_trans hx (by decide)
  have l2 := cutS_length x (some 2) none
  have l1 := cutS_length x none (some 2)
  refine wpAny_BinOp (raw_cut (l := none) (u := some 2) hNo hvo I ho hzl (fun s1 R k => part_none s1 R k) (fun s1 R k => part_int s1 R k) (fun t1 h1 k1 kp1 tk1 => ?_) hdo hco)
  have I1 : Inv X pins σ H { s with heap := h1, toks := k1 } := I.kept (t' := k1) kp1
  have T1 : Tk X xs { s with heap := h1, toks := k1 } := tk.go kp1 tk1
  generalize ({ s with heap := h1, toks := k1 } : Shared) = s' at I1 T1 ⊢
  have fin : ∀ (y : Str) (ty : Tok) (s2 : Shared), Inv X pins σ H s2 → y.length ≤ 5000 → Q (.str (cutS x none (some 2) ++ y)) H → wpAny (model X.prog X.w) X.A (binaryOp .Add (.str (cutS x none (some 2)) t1) (.str y ty)) (EP X pins σ Q) X.xe s2 := fun y ty s2 I2 ly qy =>
    add_str (fun t' k => ⟨.str _, H, I2.tok _, ⟨_, rfl⟩, qy⟩) (Nat.le_trans (show (cutS x none (some 2)).length + y.length ≤ 6000 by omega) (by decide))
  refine wpAny_IfExp (wpAny_isTrue_Compare1 (raw_name hNs hvs I1 hs (fun v r => ?_) hds hcs) (by rfl))
  obtain ⟨tn, rfl⟩ := r
  refine raw_cut (l := some 2) (u := none) hNo hvo I1 ho hzl (fun s1 R k => part_int s1 R k) (fun s1 R k => part_none s1 R k) (fun t2 h2 k2 kp2 tk2 => ?_) hdo hco
  have I2 : Inv X pins σ H { s' with heap := h2, toks := k2 } := I1.kept (t' := k2) kp2
  have T2 : Tk X xs { s' with heap := h2, toks := k2 } := T1.go kp2 tk2
  generalize ({ s' with heap := h2, toks := k2 } : Shared) = s'' at I2 T2 ⊢
  refine PyProof.Rows.in_str ?_
  rw [show (!(Builtin.Str.occurrences (cutS x (some 2) none) ⟨#[c]⟩ 0 (cutS x (some 2) none).length 1).isEmpty) = decide (c ∈ (cutS x (some 2) none).cps.toList) from PySem.StrLaws.found_one _ _]
  refine wpAny_truthy_bool ?_
  unfold togW at q
  cases zc : decide (c ∈ (cutS x (some 2) none).cps.toList)
  · rw [zc, if_neg Bool.false_ne_true] at q
    refine wpAny_BinOp (raw_cut (l := some 2) (u := none) hNo hvo I2 ho hzl (fun s1 R k => part_int s1 R k) (fun s1 R k => part_none s1 R k) (fun t3 h3 k3 kp3 tk3 => ?_) hdo hco)
    have I3 : Inv X pins σ H { s'' with heap := h3, toks := k3 } := I2.kept (t' := k3) kp3
    refine raw_name hNs hvs I3 hs (fun v r => ?_) hds hcs
    obtain ⟨tm, rfl⟩ := r
    refine add_str (fun t' k => fin _ _ _ (I3.tok k) ?_ q) (Nat.le_trans (show (cutS x (some 2) none).length + (⟨#[c]⟩ : Str).length ≤ 2000 by show _ + 1 ≤ _; omega) (by decide))
    have e : (cutS x (some 2) none ++ (⟨#[c]⟩ : Str)).length = (cutS x (some 2) none).length + 1 := by
      show (_ ++ _ : Array Nat).size = _
      rw [Array.size_append]
      rfl
    omega
  · rw [zc, if_pos rfl] at q
    refine PySem.Call_method2 hbase hst hline (raw_cut (l := some 2) (u := none) hNo hvo I2 ho hzl (fun s1 R k => part_int s1 R k) (fun s1 R k => part_none s1 R k) (fun t3 h3 k3 kp3 tk3 => ?_) hdo hco)
    have I3 : Inv X pins σ H { s'' with heap := h3, toks := k3 } := I2.kept (t' := k3) kp3
    have T3 : Tk X xs { s'' with heap := h3, toks := k3 } := T2.go kp3 tk3
    refine ⟨"str", _, F.plainAttrs_str, F.slot_str_replace, F.type_str_replace, typeIs_str _ _ _, (fun _ e => nomatch e), Calls.callWith_builtin rfl (Calls.evalArgs_plain (Calls.spliced_cons ?_))⟩
    obtain ⟨m, zz, tt, hns, hm, t0, tl⟩ := T3
    have ez : zz = ⟨#[c]⟩ := by
      obtain ⟨m', hn', hl'⟩ := I3.loc
      obtain ⟨u, r, lk⟩ := hl' is xs _ hNs hs hvs
      obtain ⟨t', rfl⟩ := r
      rcases lk with ⟨_, hm'⟩ | ⟨hk, _⟩
      · rw [hn'.agree hns xs, hm] at hm'
        injection hm' with hm'
        injection hm'
      · exfalso
        rcases hk with hk | hk
        · rw [show X.env.kindOf xs = some .local from hks] at hk; cases hk
        · rw [show X.env.kindOf xs = some .local from hks] at hk; cases hk
    subst ez
    refine wpAny_Name (wpAny_loadName_local I3.ok.kind hks hns hm ?_) hds
    refine Calls.spliced_cons (Calls.Constant_str (Calls.spliced_nil ?_))
    refine PySem.SC.replace t0 (show k3 ≠ 0 from Nat.ne_of_gt (Nat.lt_of_le_of_lt (Nat.zero_le _) tl)) (show tt ≠ k3 from Nat.ne_of_lt tl) rfl ?_ fun t' k => fin _ _ _ (I3.tok k) ?_ q
    · have h0 : ("" : Str).length = 0 := rfl
      rw [h0, Nat.mul_zero]
      omega
    · have h0 : ("" : Str).length = 0 := rfl
      have := TK.replace_len (cutS x (some 2) none) ⟨#[c]⟩ ""
      rw [h0, Nat.mul_zero] at this
      show (Txt.replace _ _ _).length ≤ _
      omega
theorem thnT {α : Type} {t : Sem α} {Q Q' : α → Shared → Prop} {M : Model} {A : Around} {E : Value → Shared → Prop} {s : Shared} (h : wpAny M A t Q E s) (hQ : ∀ a s', s.toks ≤ s'.toks → Q a s' → Q' a s') : wpAny M A t Q' E s :=
  wpAny_mono (wpAny_toks h) (fun a s' q => hQ a s' q.1 q.2) fun _ _ x => x.2
/-- a name is stored: what stands there behind -/
theorem store_tok {M : Model} {A : Around} {E : Value → Shared → Prop} {i : Nat} {x : Str} {v : V} {u : Value} {Q : Unit → Shared → Prop} (I : Inv X pins σ H s) (hN : X.N.Nodup) (hi : X.N[i]? = some x) (hk : X.env.scope.names.lookup x = some .local) (r : RelV v u)
    (h : ∀ s', Inv X pins (σ.set i (some v)) H s' → (∃ m, s'.heap.Ns X.env.locals m ∧ m x = some u) → s.toks ≤ s'.toks → Q () s') : wpAny M A (storeName X.env x u) Q E s := by
  obtain ⟨m, hn, hl⟩ := id I.loc
  have hcls : (X.env.scope.kind == .class || (X.env.scope.kind == .module && X.env.locals != X.env.globals)) = false := by rw [I.ok.kind]; rfl
  have hiσ : i < σ.length := by rw [I.len]; exact (List.getElem?_eq_some_iff.mp hi).1
  have cne := I.cne
  have tracked : ∀ {a : Addr} {h' : Heap}, (∃ o, s.heap.get? a = some o ∧ H a = none) → Heap.SameBut a s.heap h' → HOk X.prog X.w H h' := fun {a h'} ha hs b ob e => by
    obtain ⟨_, _, hfree⟩ := ha
    refine (I.hok b ob e).stay (fun c w' hc q => (hs.2 c ?_).trans q) (fun _ q => q) fun _ _ q => q
    rintro rfl
    rcases hc with rfl | hc
    · rw [hfree] at e; cases e
    · rw [hfree] at hc; cases hc
  refine wpAny_storeName_local hk hn (fun h' hn' hs => ?_) hcls
  obtain ⟨oL, _, _, hoL, _⟩ := id hn
  refine h _ ⟨I.ok, I.os, I.bare, ⟨fun b o e n hb hx => ?_, fun b o e n hb hx => ?_, I.base.free, fun b o e hx => ?_, I.base.tups, I.base.frzs, I.base.tbls⟩, ⟨_, hn', fun j y v' e1 e2 e3 => ?_⟩, fun y c e => ?_, I.free, I.freeC, fun p hp => ?_, tracked ⟨oL, hoL, I.free⟩ hs, by simpa using I.len⟩ ⟨_, hn', by simp⟩ (Nat.le_succ _)
  · exact (hs.2 b (Nat.ne_of_lt (Nat.lt_of_lt_of_le (Heap.lt_size e) I.ok.above))).trans (I.base.keep b o e n hb hx)
  · obtain ⟨sl, e1⟩ := I.base.slot b o e n hb hx
    exact ⟨sl, (hs.2 b (Nat.ne_of_lt (Nat.lt_of_lt_of_le (Heap.lt_size e) I.ok.above))).trans e1⟩
  · obtain ⟨o', e1⟩ := I.base.there b o e hx
    exact ⟨o', (hs.2 b (Nat.ne_of_lt (Nat.lt_of_lt_of_le (Heap.lt_size e) I.ok.above))).trans e1⟩
  · by_cases hj : j = i
    · subst hj
      rw [hi] at e1; cases e1
      rw [List.getElem?_set_self hiσ] at e2
      cases e2
      exact ⟨u, r, .inl ⟨hk, by simp⟩⟩
    · rw [List.getElem?_set_ne (Ne.symm hj)] at e2
      obtain ⟨u', r', q⟩ := hl j y v' e1 e2 e3
      refine ⟨u', r', ?_⟩
      rcases q with ⟨k, e⟩ | ⟨k, c, e, z⟩
      · refine .inl ⟨k, ?_⟩
        have : y ≠ x := fun e => hj (nodup_ix hN e1 (e ▸ hi))
        simp [this, e]
      · exact .inr ⟨k, c, e, z.sameBut hs (cne y c e)⟩
  · obtain ⟨w', z⟩ := I.cell y c e
    exact ⟨w', z.sameBut hs (cne y c e)⟩
  · obtain ⟨e, n, ne, nf, d⟩ := I.pin p hp
    exact ⟨(hs.2 p.1 ne).trans e, n, ne, nf, d⟩
/-- a sign struck out where it is in, else another value -/
def tStar (io : Nat) (t3 : TE) : TE := fun σ H Q => ∃ x : Str, σ[io]? = some (some (.str x)) ∧ x.length ≤ 1000 ∧ if decide (42 ∈ x.cps.toList) = true then Q (.str (strike x 42)) H else t3 σ H Q
theorem pe_star {io : Nat} {xo : Str} {e3 : Expr} {t3 : TE} {o1 o2 pa pc pi pt c1 c2 c3 : Pos} {j1 j2 j3 : Nat} (hNo : X.N[io]? = some xo) (hvo : Vis X.env.scope xo) (h3 : PE X e3 t3)
    (hdo : (xo == ("__debug__" : Str)) = false := by decide) (hco : (xo == ("__classdict__" : Str)) = false := by decide)
    (hbase : attributeBase (.Name xo o2) "replace" X.env (eval (.Name xo o2) X.env) = eval (.Name xo o2) X.env := by rfl)
    (hst : starEach [.Constant (.str "*") j2 c2, .Constant (.str "") j3 c3] X.env = [(false, eval (.Constant (.str "*") j2 c2) X.env), (false, eval (.Constant (.str "") j3 c3) X.env)] := by rfl) (hline : (pa.endLine == pc.line) = true := by rfl) :
    PE X (.IfExp (.Compare (.Constant (.str "*") j1 c1) [.In] [.Name xo o1] pi) (.Call (.Attribute (.Name xo o2) "replace" pa) [.Constant (.str "*") j2 c2, .Constant (.str "") j3 c3] [] pc) e3 pt) (tStar io t3) := by
  refine ⟨fun pins s σ H Q I h => ?_⟩
  obtain ⟨x, ho, hx, q⟩ := h
  refine wpAny_IfExp (wpAny_isTrue_Compare1 (Calls.Constant_str (raw_name hNo hvo (I.tok (s.toks + 1)) ho (fun v r => ?_) hdo hco)) (by rfl))
  obtain ⟨t1, rfl⟩ := r
  refine PyProof.Rows.in_str ?_
  rw [show (!(Builtin.Str.occurrences x "*" 0 x.length 1).isEmpty) = decide (42 ∈ x.cps.toList) from PySem.StrLaws.found_one _ _]
  refine wpAny_truthy_bool ?_
  cases zc : decide (42 ∈ x.cps.toList)
  · rw [zc, if_neg Bool.false_ne_true] at q
    exact h3.run pins _ σ H Q (I.tok _) q
  · rw [zc, if_pos rfl] at q
    refine PySem.Call_method2 hbase hst hline (raw_name hNo hvo (I.tok (s.toks + 1)) ho (fun v r => ?_) hdo hco)
    obtain ⟨t2, rfl⟩ := r
    refine ⟨"str", _, F.plainAttrs_str, F.slot_str_replace, F.type_str_replace, typeIs_str _ _ _, (fun _ e => nomatch e), Calls.callWith_builtin rfl (Calls.evalArgs_plain (Calls.spliced_cons ?_))⟩
    refine Calls.Constant_str (Calls.spliced_cons (Calls.Constant_str (Calls.spliced_nil ?_)))
    refine PySem.SC.replace (show s.toks + 1 ≠ 0 from Nat.succ_ne_zero _) (show s.toks + 1 + 1 ≠ 0 from Nat.succ_ne_zero _) (show s.toks + 1 ≠ s.toks + 1 + 1 from Nat.ne_of_lt (Nat.lt_succ_self _)) rfl ?_ fun t' k => ⟨.str (strike x 42), H, I.tok k, ⟨t', rfl⟩, q⟩
    have h0 : ("" : Str).length = 0 := rfl
    rw [h0, Nat.mul_zero]
    omega
/-- x, y = 'abcd'[i], e behind which x is asked for once more -/
def tTogIf (it io is : Nat) (n : Int) (g : TG) (u : L2.TS) : L2.TS := fun D σ H => ∃ k : Int, σ[it]? = some (some (.int k)) ∧
  if decide (k < n) = true then ∃ (x : Str) (c : Nat), σ[io]? = some (some (.str x)) ∧ σ[is]? = some (some (.str ⟨#[c]⟩)) ∧ x.length ≤ 1000 ∧ g (.str (togW x c)) σ H (u D) else u D σ H
theorem pss_tog {is io it : Nat} {xs xo xt abcd : Str} {n : Int} {ei eo tg : Expr} {ti te : TE} {g : TG} {rest : List Stmt} {u : L2.TS} {px py pt0 p1 pt2 pos1 p3 p4 p5 p6 c0 c5 : Pos} {k1 k2 j0 j5 : Nat}
    {o1 o2 o3 o4 q1 q2 q3 q4 q5 r1 r2 r3 r4 s1 s2 s3 c1 c2 c3 c4 e1 pa pc pi pb pt : Pos} {n1 n2 n3 n4 n5 : Nat}
    (hc : X.calm = true) (hN : X.N.Nodup) (hi : X.N[is]? = some xs) (hj : X.N[io]? = some xo) (hij : is ≠ io) (hx : X.env.scope.names.lookup xs = some .local) (hy : X.env.scope.names.lookup xo = some .local) (hit : X.N[it]? = some xt) (hvt : Vis X.env.scope xt)
    (hei : PE X ei ti) (heo : PE X eo te) (hg : PG X tg g) (hrest : PSs X rest u)
    (hab : abcd.length ≤ sizeLine) (hpl : PlainIx ei)
    (hw : swappedStores [.Tuple [.Name xs px, .Name xo py] k1 pt0] (.Tuple [.Subscript (.Constant (.str abcd) j0 c0) ei p1, eo] k2 pt2) X.env = pure (some [xs, xo]))
    (hs : swapsWithSole [.Tuple [.Name xs px, .Name xo py] k1 pt0] (.Tuple [.Subscript (.Constant (.str abcd) j0 c0) ei p1, eo] k2 pt2) pos1.line X.env = pure false := by rfl)
    (hse : starEach [.Subscript (.Constant (.str abcd) j0 c0) ei p1, eo] X.env = [(false, eval (.Subscript (.Constant (.str abcd) j0 c0) ei p1) X.env), (false, eval eo X.env)] := by rfl)
    (hdo : (xo == ("__debug__" : Str)) = false := by decide) (hco : (xo == ("__classdict__" : Str)) = false := by decide) (hds : (xs == ("__debug__" : Str)) = false := by decide) (hcs : (xs == ("__classdict__" : Str)) = false := by decide) (hdt : (xt == ("__debug__" : Str)) = false := by decide) (hct : (xt == ("__classdict__" : Str)) = false := by decide)
    (hbase : attributeBase (.Subscript (.Name xo o3) (.Slice (some (.Constant (.int 2) n3 c3)) none none q3) r3) "replace" X.env (eval (.Subscript (.Name xo o3) (.Slice (some (.Constant (.int 2) n3 c3)) none none q3) r3) X.env) = eval (.Subscript (.Name xo o3) (.Slice (some (.Constant (.int 2) n3 c3)) none none q3) r3) X.env := by rfl)
    (hst : starEach [.Name xs s2, .Constant (.str "") n5 e1] X.env = [(false, eval (.Name xs s2) X.env), (false, eval (.Constant (.str "") n5 e1) X.env)] := by rfl) (hline : (pa.endLine == pc.line) = true := by rfl)
    (hs2 : swapsWithSole [tg] (.BinOp (.Subscript (.Name xo o1) (.Slice none (some (.Constant (.int 2) n1 c1)) none q1) r1) .Add
      (.IfExp (.Compare (.Name xs s1) [.In] [.Subscript (.Name xo o2) (.Slice (some (.Constant (.int 2) n2 c2)) none none q2) r2] pi)
        (.Call (.Attribute (.Subscript (.Name xo o3) (.Slice (some (.Constant (.int 2) n3 c3)) none none q3) r3) "replace" pa) [.Name xs s2, .Constant (.str "") n5 e1] [] pc)
        (.BinOp (.Subscript (.Name xo o4) (.Slice (some (.Constant (.int 2) n4 c4)) none none q4) r4) .Add (.Name xs s3) pb) pt) q5) p5.line X.env = pure false := by rfl)
    (hw2 : swappedStores [tg] (.BinOp (.Subscript (.Name xo o1) (.Slice none (some (.Constant (.int 2) n1 c1)) none q1) r1) .Add
      (.IfExp (.Compare (.Name xs s1) [.In] [.Subscript (.Name xo o2) (.Slice (some (.Constant (.int 2) n2 c2)) none none q2) r2] pi)
        (.Call (.Attribute (.Subscript (.Name xo o3) (.Slice (some (.Constant (.int 2) n3 c3)) none none q3) r3) "replace" pa) [.Name xs s2, .Constant (.str "") n5 e1] [] pc)
        (.BinOp (.Subscript (.Name xo o4) (.Slice (some (.Constant (.int 2) n4 c4)) none none q4) r4) .Add (.Name xs s3) pb) pt) q5) X.env = pure none := by rfl)
    (h1 : (assignEach [tg] X.env).map (·.2) = [assign tg X.env] := by rfl) :
    PSs X (.Assign [.Tuple [.Name xs px, .Name xo py] k1 pt0] (.Tuple [.Subscript (.Constant (.str abcd) j0 c0) ei p1, eo] k2 pt2) pos1 ::
      .If (.Compare (.Name xt p3) [.Lt] [.Constant (.int n) j5 c5] p4) [.Assign [tg] (.BinOp (.Subscript (.Name xo o1) (.Slice none (some (.Constant (.int 2) n1 c1)) none q1) r1) .Add
      (.IfExp (.Compare (.Name xs s1) [.In] [.Subscript (.Name xo o2) (.Slice (some (.Constant (.int 2) n2 c2)) none none q2) r2] pi)
        (.Call (.Attribute (.Subscript (.Name xo o3) (.Slice (some (.Constant (.int 2) n3 c3)) none none q3) r3) "replace" pa) [.Name xs s2, .Constant (.str "") n5 e1] [] pc)
        (.BinOp (.Subscript (.Name xo o4) (.Slice (some (.Constant (.int 2) n4 c4)) none none q4) r4) .Add (.Name xs s3) pb) pt) q5) p5] [] p6 :: rest)
      (tSeq (tPar is io (tCons (tOp rIxS (tC (.str abcd)) ti) (tCons te tNil))) (tTogIf it io is n g u)) := by
  refine ⟨fun pins s σ H D I h => ?_⟩
  refine wpAny_execs_cons ?_
  rw [exec_Assign_arm]
  refine wpAny_bind (wpAny_standAt ?_)
  rw [hs]
  refine wpAny_bind (wpAny_pure ?_)
  rw [if_neg (by decide)]
  refine wpAny_bind (Tuple_ ?_)
  rw [hse]
  show wpAny _ _ (spliced ((false, eval (.Subscript (.Constant (.str abcd) j0 c0) ei p1) X.env) :: [(false, eval eo X.env)])) _ _ s
  refine Calls.spliced_cons (Subscript_ (Calls.Constant_str ?_))
  refine thnT (hei.run pins _ σ H _ (I.tok (s.toks + 1)) h) fun v2 s2' tk2 ⟨y, H2, I2, ry, z, i2, c, e1, ey, hz, he, h⟩ => ?_
  subst ey
  injection e1 with e1
  subst e1
  obtain ⟨t', rfl⟩ := ry
  obtain ⟨j, hh1, hh2, hh3, hh4, hh5⟩ := atI_get he
  have hl : abcd.cps.toList.length = abcd.length := by simp [Str.length]
  rw [hl] at hh1 hh4 hh5
  have hn := line63
  refine tail_any (typeIs_str s2' abcd s.toks) slot_str_getitem.lookup (getItem_str (c := c) (by
    have e1 : decide (i2 < -(2 ^ 63 : Int)) = false := decide_eq_false (by omega)
    have e2 : decide (i2 ≥ 2 ^ 63) = false := decide_eq_false (by omega)
    rw [e1, e2, Bool.or_false]) (by rw [hh1]; simpa using hh2) ?_) (hpl _ _)
  have pos : 0 < s2'.toks := Nat.lt_of_lt_of_le (Nat.succ_pos _) tk2
  refine Calls.spliced_cons (thnT (heo.run pins _ σ H2 _ (I2.tok (s2'.toks + 1)) h) fun v3 s3 tk3 ⟨x3, H3, I3, r3, h⟩ => Calls.spliced_nil ?_)
  have lt3 : s2'.toks < s3.toks := tk3
  obtain ⟨v, w, e1, h⟩ := h
  injection e1 with e1 e2
  injection e2 with e2 _
  subst e1 e2
  refine wpAny_newObj_type ?_ (by show 2 ≤ sizeLine; decide)
  have I4 : Inv X pins σ H3 { s3 with heap := s3.heap.push { cls := .type "tuple", data := .seq [.str ⟨#[c]⟩ s2'.toks, v3].toArray } } := I3.kept (t' := s3.toks) fun b o e => Heap.get?_push_of_some _ e
  rw [hw]
  refine wpAny_bind (wpAny_pure ?_)
  show wpAny (model X.prog X.w) X.A (do rule "assign.swapped-stores"; let items ← unpackItems (.ref s3.heap.objs.size) 2 none; assignInOrder [fun v => bindName X.env xo v, fun v => bindName X.env xs v] items.reverse; pure Flow.next) _ _ _
  refine wpAny_bind (wpAny_rule (wpAny_bind (unpackItems_tuple (items := #[.str ⟨#[c]⟩ s2'.toks, v3]) (I.ok.hd hc) (IsTup.new s3.heap _) fun h' hx' => ?_)))
  have I5 := I4.kept (h' := h') (t' := s3.toks) fun b o e => hx' b o (Nat.ne_of_lt (Heap.lt_size e)) e
  show wpAny _ _ (assignInOrder [fun v => bindName X.env xo v, fun v => bindName X.env xs v] [v3, .str ⟨#[c]⟩ s2'.toks] >>= fun _ => pure Flow.next) _ _ _
  refine wpAny_bind (assignInOrder_cons (wpAny_bindName (thnT (store_ok I5 hN hj (.inl hy) r3 (Q := fun _ s6 => Inv X pins (σ.set io (some x3)) H3 s6) (fun s6 I6 => I6) (.inr hy)) fun _ s6 tk6 I6 => ?_)))
  have lt6 : s2'.toks < s6.toks := Nat.lt_of_lt_of_le lt3 tk6
  refine assignInOrder_cons (wpAny_bindName (store_tok I6 hN hi hx (v := .str ⟨#[c]⟩) ⟨_, rfl⟩ fun s7 I7 ns7 tk7 => assignInOrder_nil (wpAny_pure ?_)))
  have T7 : Tk X xs s7 := by
    obtain ⟨m, a, b⟩ := ns7
    exact ⟨m, _, _, a, b, Nat.ne_of_gt pos, Nat.lt_of_lt_of_le lt6 tk7⟩
  rw [List.set_comm _ _ (Ne.symm hij)] at I7
  have h : tTogIf it io is n g u D ((σ.set is (some (.str ⟨#[c]⟩))).set io (some x3)) H3 := h
  generalize (σ.set is (some (V.str ⟨#[c]⟩))).set io (some x3) = σ2 at I7 h
  obtain ⟨k, ht, h⟩ := h
  refine wpAny_execs_cons ?_
  have I8 := I7.tok (s7.toks + 1)
  have T8 : Tk X xs { s7 with toks := s7.toks + 1 } := T7.go (fun _ _ e => e) (Nat.le_succ _)
  refine wpAny_If (wpAny_isTrue_Compare1 (raw_name hit hvt I7 ht (fun v r => ?_) hdt hct) (by rfl))
  obtain ⟨t9, rfl⟩ := r
  refine wpAny_Constant_int (PyProof.Rows.lt_int (wpAny_truthy_bool ?_))
  cases zk : decide (k < n)
  · rw [zk, if_neg Bool.false_ne_true] at h
    exact wpAny_execs_nil (hrest.run pins _ σ2 H3 D I8 h)
  · rw [zk, if_pos rfl] at h
    obtain ⟨x, c', ho, hs', hx', h⟩ := h
    refine wpAny_execs_cons (wpAny_Assign_stores (thn (raw_tog (Q := fun y H4 => y = .str (togW x c') ∧ H4 = H3) (by rw [← hj]) (.inl hy) (by rw [← hi]) hx I8 T8 ho hs' hx' ⟨rfl, rfl⟩ hdo hco hds hcs hbase hst hline) fun v s9 ⟨y, H9, I9, r9, ey, eh⟩ => ?_) hs2 hw2)
    subst ey eh
    rw [h1]
    refine thn (hg.run pins s9 σ2 H9 _ v _ I9 r9 h) fun _ s10 q10 => ?_
    obtain ⟨σ3, H10, I10, q10⟩ := q10
    exact wpAny_execs_nil (hrest.run pins s10 σ3 H10 D I10 q10)
end
end Kn


namespace Kn
open PySem PySem.Spec PyProof.Rows L2
abbrev nCh : List Str := ["_law_feed_here", "_law_text_in", "_law_parts", "_law_k", "_law_turn_in", "_law_sign", "_law_own"]
theorem scCh : FnScope nCh ["_law_feed_here", "_law_text_in"] (defScope (topS 31)) := ⟨rfl, rfl, rfl, by decide +kernel, rfl, by decide +kernel, by decide +kernel⟩
/-! ### a page with one change -/
theorem cut_a {x : Str} {a c : Nat} {rest : List Nat} (h : x.cps.toList = a :: c :: rest) : cutS x none (some 2) = ⟨#[a, c]⟩ := by
  obtain ⟨⟨l⟩⟩ := x
  have h : l = a :: c :: rest := h
  subst h
  have e : HT.sIx (a :: c :: rest).length (a :: c :: rest).length (some 2) = 2 := by
    show min (2 : Int).toNat (a :: c :: rest).length = 2
    rw [List.length_cons, List.length_cons]
    show min 2 (rest.length + 1 + 1) = 2
    omega
  show (⟨(((a :: c :: rest).drop 0).take (HT.sIx (a :: c :: rest).length (a :: c :: rest).length (some 2) - 0)).toArray⟩ : Str) = _
  rw [e]
  rfl
theorem strike_cps (x : Str) (c : Nat) : (strike x c).cps.toList = x.cps.toList.filter (· != c) := PyProof.Rows.replace_strikes x c
theorem sIx_nat {n d i : Nat} (h : i ≤ n) : HT.sIx n d (some (i : Nat)) = i := by
  rw [HT.sIx_nat]
  omega
theorem cut_to {l : List Nat} {k : Nat} (h : k ≤ l.length) : cutS ⟨l.toArray⟩ none (some (k : Nat)) = ⟨(l.take k).toArray⟩ := by
  show (⟨((l.drop 0).take (HT.sIx l.length l.length (some (k : Nat)) - 0)).toArray⟩ : Str) = _
  rw [sIx_nat h]
  rfl
theorem cut_from {l : List Nat} {k : Nat} (h : k ≤ l.length) : cutS ⟨l.toArray⟩ (some (k : Nat)) none = ⟨(l.drop k).toArray⟩ := by
  show (⟨((l.drop (HT.sIx l.length 0 (some (k : Nat)))).take (l.length - HT.sIx l.length 0 (some (k : Nat)))).toArray⟩ : Str) = _
  rw [sIx_nat h, List.take_of_length_le (by rw [List.length_drop]; exact Nat.le_refl _)]
/-- a word with a letter more or less -/
theorem tog_ok {n j s : Nat} {x : Str} (h : wordK n j x = true) (hs : 97 ≤ s ∧ s < 97 + n) : wordK n j (togW x s) = true := by
  obtain ⟨c, rest, w⟩ := wordK_is h
  have c1 := cut_a w.cs
  have c2 := cut2 w.cs
  have e2 : (cutS x (some 2) none).cps.toList = rest := by rw [c2]
  have e : (togW x s).cps.toList = (97 + j) :: c :: (if s ∈ rest then rest.filter (· != s) else rest ++ [s]) := by
    unfold togW
    rw [app_cps, c1, e2]
    by_cases m : s ∈ rest
    · rw [decide_eq_true m, if_pos rfl, if_pos m, strike_cps, e2]
      rfl
    · rw [decide_eq_false m, if_neg Bool.false_ne_true, if_neg m, app_cps, e2]
      rfl
  refine (WordK.mk e w.c1 (fun d hd => ?_) ?_).ok
  · split at hd
    · exact w.all d (List.mem_filter.mp hd).1
    · rcases List.mem_append.mp hd with h | h
      · exact w.all d h
      · rw [List.mem_singleton.mp h]
        exact .inr hs
  · split
    · exact w.nd.sublist (List.filter_sublist ..)
    · next m =>
      refine List.nodup_append.mpr ⟨w.nd, by simp, fun a ha b hb => ?_⟩
      rw [List.mem_singleton.mp hb]
      exact fun e => m (e ▸ ha)
/-- a word with the star more or less -/
def starW (x : Str) : Str := if decide (42 ∈ x.cps.toList) = true then strike x 42 else cutS x none (some 2) ++ "*" ++ cutS x (some 2) none
theorem star_ok {n j : Nat} {x : Str} (h : wordK n j x = true) : wordK n j (starW x) = true := by
  obtain ⟨c, rest, w⟩ := wordK_is h
  have c1 := cut_a w.cs
  have c2 := cut2 w.cs
  have cc := w.c1
  have m : 42 ∈ x.cps.toList ↔ 42 ∈ rest := by
    rw [w.cs]
    constructor
    · intro z
      rcases List.mem_cons.mp z with z | z
      · omega
      rcases List.mem_cons.mp z with z | z
      · omega
      · exact z
    · intro z
      exact List.mem_cons_of_mem _ (List.mem_cons_of_mem _ z)
  have e : (starW x).cps.toList = (97 + j) :: c :: (if 42 ∈ rest then rest.filter (· != 42) else 42 :: rest) := by
    unfold starW
    by_cases k : 42 ∈ rest
    · rw [decide_eq_true (m.mpr k), if_pos rfl, if_pos k, strike_cps, w.cs, List.filter_cons, List.filter_cons, if_pos (by simp only [bne_iff_ne]; omega), if_pos (by simp only [bne_iff_ne]; omega)]
    · rw [decide_eq_false (fun z => k (m.mp z)), if_neg Bool.false_ne_true, if_neg k, app_cps, app_cps, c1, c2]
      rfl
  refine (WordK.mk e w.c1 (fun d hd => ?_) ?_).ok
  · split at hd
    · exact w.all d (List.mem_filter.mp hd).1
    · rcases List.mem_cons.mp hd with h | h
      · exact .inl h
      · exact w.all d h
  · split
    · exact w.nd.sublist (List.filter_sublist ..)
    · next k => exact List.nodup_cons.mpr ⟨k, w.nd⟩
theorem fee_ok {n j m : Nat} {x : Str} {a : Nat} (h : wordK n j x = true) (ha : x.cps.toList[0]? = some a) (hm : m < 3) : wordK n j (((⟨#[a]⟩ : Str) ++ ⟨#[49 + m]⟩) ++ cutS x (some 2) none) = true := by
  obtain ⟨c, rest, w⟩ := wordK_is h
  have c2 := cut2 w.cs
  have ea : a = 97 + j := by
    rw [w.cs] at ha
    exact (Option.some.inj ha).symm
  subst ea
  refine (WordK.mk (c := 49 + m) (rest := rest) ?_ ⟨by omega, by omega⟩ w.all w.nd).ok
  rw [app_cps, app_cps, c2]
  rfl
theorem PageOk.word {q : Page} (h : PageOk q) {k : Nat} {y : Str} (hy : wordK q.ws.length k y = true) : PageOk ⟨q.ask, q.pw, q.sz, q.ws.set k y⟩ := by
  have l : (q.ws.set k y).length = q.ws.length := List.length_set ..
  refine ⟨by show 1 ≤ (q.ws.set k y).length; rw [l]; exact h.n1, by show (q.ws.set k y).length ≤ 4; rw [l]; exact h.n4, by show 97 ≤ q.ask ∧ q.ask < 97 + (q.ws.set k y).length; rw [l]; exact h.ask, h.pw, by show q.sz.length = (q.ws.set k y).length; rw [l]; exact h.sl, h.sd, fun j x hx => ?_⟩
  show wordK (q.ws.set k y).length j x = true
  rw [l]
  have hx : (q.ws.set k y)[j]? = some x := hx
  by_cases e : k = j
  · subst e
    have lt := (List.getElem?_eq_some_iff.mp hx).1
    rw [l] at lt
    rw [List.getElem?_set_self lt] at hx
    rw [← Option.some.inj hx]
    exact hy
  · rw [List.getElem?_set_ne e] at hx
    exact h.each j x hx
def spCh : Sp := fun vs H Q _ => ∃ (f a : Addr) (ns : List Int) (c : Nat) (q : Page), vs = [.ref f, .str q.tx] ∧ PageOk q ∧ Fd f a ns H c ∧ c + 10 < 100000 ∧ ∀ (q' : Page) (H' : Hp), PageOk q' → Keep f H H' → Fd f a ns H' (c + 4) → Q (.str q'.tx) H'
theorem ixN_nat {n j : Nat} (h : j < n) : ixN n (j : Nat) = some j := by
  unfold ixN
  rw [if_pos (by omega), if_pos (by omega)]
  rfl
theorem if_ne {i j : Int} {A N : Prop} (h : i ≠ j) (x : N) : if decide (V.int i = V.int j) = true then A else N := by
  rw [if_neg]
  · exact x
  · rw [decide_eq_true_iff]
    exact fun e => h (V.int.inj e)
theorem if_eq {i j : Int} {A N : Prop} (h : i = j) (x : A) : if decide (V.int i = V.int j) = true then A else N := by
  rw [if_pos]
  · exact x
  · rw [h, decide_eq_true rfl]
theorem tx_sum {q : Page} (ok : PageOk q) : (q.pts.map (·.length)).sum + q.pts.length * (" " : Str).length ≤ 16777216 := by
  have z2 : ∀ ys : List Str, (∀ y ∈ ys, y.length ≤ 7) → (ys.map (·.length)).sum ≤ ys.length * 7 := fun ys => by
    induction ys with
    | nil => exact fun _ => Nat.zero_le _
    | cons y r ih =>
      intro h
      have := ih fun v hv => h v (List.mem_cons_of_mem _ hv)
      have := h y (List.mem_cons_self ..)
      rw [List.map_cons, List.sum_cons, List.length_cons, Nat.add_mul]
      omega
  have z3 := z2 _ fun p hp => (ok.parts p hp).1
  have l : q.pts.length = q.ws.length + 3 := rfl
  have := ok.n4
  rw [l] at z3 ⊢
  show _ + (q.ws.length + 3) * 1 ≤ _
  omega
section
variable {P : Program} {w : World} {K : PySem.W.Frag} {mg : Str → Option Value} {base : Heap}
theorem ok_ch {g gD : Addr} {fd fdD : FuncData} (F : Fun K "_law_changed" "_law_changed" (topS 31) g fd) (D : Def K mg "_law_draw" 23 ["_law_feed_here", "_law_many"] gD fdD) (GD : FnOk P w K mg base CX0 1 gD fdD ["_law_feed_here", "_law_many"] spDraw) (ml : mg "len" = none) (mz : mg "str" = none) :
    FnOk P w K mg base CX0 2 g fd ["_law_feed_here", "_law_text_in"] spCh := by
  refine F.ok scCh (fun vs H Q E h => ?_) (fun cdv A outer s H vs Q E hr h => ?_)
  · obtain ⟨f, a, ns, c, q, rfl, _⟩ := h
    rfl
  · obtain ⟨f, a, ns, c, q, rfl, ok, fd0, hc, fin⟩ := h
    refine ⟨_, (pss_cons (ps_set (i := 2) scCh.nd rfl (.inl rfl) (pe_split (pv 1) pe_str))
      (pss_cons (ps_par (i := 3) (j := 4) (by rfl) scCh.nd rfl rfl (by decide) rfl rfl (pa_cons (pe_op op_add pe_int (pe_call GD (hr.mono (by decide)) (by rfl) D.m D.F.kp D.b .nil pass0 (pa_cons (pv 0) (pa_cons (pe_op op_sub (pe_callB call_len_seq (by rfl) ml PySem.boot_len (pa_cons (pv 2) pa_nil)) pe_int) pa_nil)))) (pa_cons (pe_call GD (hr.mono (by decide)) (by rfl) D.m D.F.kp D.b .nil pass0 (pa_cons (pv 0) (pa_cons pe_int pa_nil))) pa_nil)) (by rfl))
      (pss_tog (is := 5) (io := 6) (it := 4) (hab := (show 4 ≤ sizeLine by decide)) (hpl := fun _ _ => rfl) (hw := by rfl) (by rfl) scCh.nd rfl rfl (by decide) rfl rfl rfl (.inl rfl) (pe_call GD (hr.mono (by decide)) (by rfl) D.m D.F.kp D.b .nil pass0 (pa_cons (pv 0) (pa_cons (pe_op op_sub (pe_callB call_len_seq (by rfl) ml PySem.boot_len (pa_cons (pv 2) pa_nil)) pe_int) pa_nil))) (pe_ix ix_list (pv 2) (pv 3) (fun _ _ => rfl)) (pg_sub (pv 2) (pv 3) set_list)
      ((pss_cons (ps_if (pt_cmpR op_eq (pv 4) pe_int (nomark _)) (pss_one (ps_asg (pe_op op_add_str (pe_op op_add_str (pe_ix ix_str (pv 6) pe_int (fun _ _ => rfl)) (pe_callTy call_str_int (by rfl) mz (by decide +kernel) (pa_cons (pe_op op_add pe_int (pe_call GD (hr.mono (by decide)) (by rfl) D.m D.F.kp D.b .nil pass0 (pa_cons (pv 0) (pa_cons pe_int pa_nil)))) pa_nil))) (pe_slice sl_str (pv 6) (po_some pe_int) po_none)) (pg_sub (pv 2) (pv 3) set_list))) pss_nil)
      (pss_cons (ps_if (PW.pt (pw_and (pt_cmpR op_eq (pv 4) pe_int (nomark _)) (pw_and1 (pt_cmpR op_ne (pe_ix ix_str (pv 6) pe_int (fun _ _ => rfl)) (pe_ix ix_list (pv 2) pe_int (fun _ _ => rfl)) (nomark _))))) (pss_one (ps_asg (pe_star (io := 6) rfl (.inl rfl) (pe_op op_add_str (pe_op op_add_str (pe_slice sl_str (pv 6) po_none (po_some pe_int)) pe_str) (pe_slice sl_str (pv 6) (po_some pe_int) po_none))) (pg_sub (pv 2) (pv 3) set_list))) pss_nil)
      (pss_cons (ps_if (pt_cmpR op_eq (pv 4) pe_int (nomark _)) (pss_one (ps_asg (pe_op op_add_str (pe_op op_add_str (pe_slice sl_str (pe_ix ix_list (pv 2) pe_int (fun _ _ => rfl)) po_none (po_some (pe_op op_sub (pv 3) pe_int))) (pe_callTy call_str_int (by rfl) mz (by decide +kernel) (pa_cons (pe_op op_add pe_int (pe_call GD (hr.mono (by decide)) (by rfl) D.m D.F.kp D.b .nil pass0 (pa_cons (pv 0) (pa_cons pe_int pa_nil)))) pa_nil))) (pe_slice sl_str (pe_ix ix_list (pv 2) pe_int (fun _ _ => rfl)) (po_some (pe_op op_sub (pv 3) pe_int)) po_none)) (pg_sub (pv 2) pe_int set_list))) pss_nil)
      (pss_cons (ps_if (pt_cmpR op_eq (pv 4) pe_int (nomark _)) (pss_one (ps_asg (pe_callTy call_str_int (by rfl) mz (by decide +kernel) (pa_cons (pe_call GD (hr.mono (by decide)) (by rfl) D.m D.F.kp D.b .nil pass0 (pa_cons (pv 0) (pa_cons pe_int pa_nil))) pa_nil)) (pg_sub (pv 2) pe_int set_list))) pss_nil)
      (pss_one (ps_ret (pe_join pe_str (pv 2)))))))))))), ?_⟩
    have n1 := ok.n1
    have n4 := ok.n4
    have lt := ok.len
    refine asg_seq ⟨.str q.tx, rfl, ⟨_, rfl⟩, _, _, rfl, rfl, rfl, Nat.le_trans (show q.tx.length + 2 ≤ 1000 by omega) (by decide), fun L nL => ?_⟩
    rw [ok.split]
    obtain ⟨m1, m2⟩ := fd0.free nL
    have fd1 : Fd f a ns (upd H L (.lst (q.pts.map V.str))) c := fd0.own m1 m2
    have k1 : Keep f H (upd H L (.lst (q.pts.map V.str))) := keep_same (same_new nL)
    have eL : (upd H L (.lst (q.pts.map V.str))) L = some (.lst (q.pts.map V.str)) := upd_same
    have neLf : L ≠ f := m1.symm
    generalize upd H L (.lst (q.pts.map V.str)) = H1 at fd1 k1 eL ⊢
    dsimp only [gName, List.set]
    have lp : (q.pts.map V.str).length = q.ws.length + 3 := by rw [List.length_map]; rfl
    refine ⟨.ref f, rfl, .ref L, rfl, L, _, rfl, .inl (.inl (.inl eL)), _, 3, rfl, rfl, ?_⟩
    refine ⟨f, a, ns, c, _, rfl, by omega, by omega, fd1, by omega, fun z H2 z0 z1 k2 fd2 => ⟨3, z, rfl, rfl, .ref f, rfl, f, a, ns, c + 1, 6, rfl, by omega, by omega, fd2, by omega, fun t H3 t0 t1 k3 fd3 => ⟨_, _, rfl, ?_⟩⟩⟩
    obtain ⟨k, rfl⟩ := Int.eq_ofNat_of_zero_le z0
    have hk : k < q.ws.length := by omega
    dsimp only [List.set]
    have eL3 := k3 _ _ neLf (k2 _ _ neLf eL)
    have k13 := (k1.trans k2).trans k3
    clear k2 k3 k1 eL fd1 fd2
    rw [show (3 : Int) + (k : Nat) = ((k + 3 : Nat) : Int) by omega]
    have hx : q.ws[k]? = some (q.ws[k]'hk) := List.getElem?_eq_getElem hk
    generalize q.ws[k]'hk = x at hx
    have wx := ok.each k x hx
    obtain ⟨c0, rest, wk⟩ := wordK_is wx
    have lx := wk.len
    have lr := wk.few
    have hpx : (q.pts.map V.str)[k + 3]? = some (.str x) := by
      show (q.ws.map V.str)[k]? = _
      rw [List.getElem?_map, hx]
      rfl
    refine ⟨.ref f, rfl, .ref L, rfl, L, _, rfl, .inl (.inl (.inl eL3)), _, 3, rfl, rfl, f, a, ns, c + 2, _, rfl, by omega, by omega, fd3, by omega, fun z2 H4 y0 y1 k4 fd4 => ?_⟩
    obtain ⟨s2, rfl⟩ := Int.eq_ofNat_of_zero_le y0
    have ls : s2 < q.ws.length := by omega
    have at4 : atI ("abcd" : Str).cps.toList ((s2 : Nat) : Int) = some (97 + s2) := by
      have : s2 = 0 ∨ s2 = 1 ∨ s2 = 2 ∨ s2 = 3 := by omega
      rcases this with rfl | rfl | rfl | rfl <;> rfl
    have eL4 := k4 _ _ neLf eL3
    have k14 := k13.trans k4
    clear k4 k13 eL3 fd3
    refine ⟨"abcd", (s2 : Nat), 97 + s2, rfl, rfl, (show 4 ≤ sizeLine by decide), at4, .ref L, rfl, .int ((k + 3 : Nat) : Int), rfl, L, _, ((k + 3 : Nat) : Int), .str x, rfl, rfl, .inl (.inl eL4), atI_nat hpx, _, _, rfl, ?_⟩
    dsimp only [List.set]
    have ixk : ixN (q.pts.map V.str).length ((k + 3 : Nat) : Int) = some (k + 3) := ixN_nat (by rw [lp]; omega)
    have nLk := fun {G : Hp} (kG : Keep f H G) (o : HO) => keep_put (o := o) kG nL
    have atx0 : atI x.cps.toList ((0 : Nat) : Int) = some (97 + k) := atI_nat (by rw [wk.cs]; rfl)
    have big : 1000 ≤ sizeLine := by decide
    have lx7 : x.length ≤ sizeLine := by omega
    refine ⟨t, rfl, ?_⟩
    by_cases t2 : t < 2
    · rw [decide_eq_true t2]
      refine iteT ⟨x, 97 + s2, rfl, rfl, by omega, ?_⟩
      have ok' := ok.word (tog_ok wx (s := 97 + s2) (by omega))
      refine ⟨.ref L, rfl, .int ((k + 3 : Nat) : Int), rfl, L, _, ((k + 3 : Nat) : Int), k + 3, rfl, rfl, eL4, ixk, ?_⟩
      have eG : (upd H4 L (.lst ((q.pts.map V.str).set (k + 3) (.str (togW x (97 + s2)))))) L = some (.lst ((Page.pts ⟨q.ask, q.pw, q.sz, q.ws.set k (togW x (97 + s2))⟩).map V.str)) := by
        rw [upd_same]
        show some (HO.lst (_ :: _ :: _ :: (q.ws.map V.str).set k _)) = some (HO.lst (_ :: _ :: _ :: (q.ws.set k _).map V.str))
        rw [List.map_set]
      refine ⟨.int t, rfl, rfl, _, rfl, if_ne (by omega) ?_⟩
      refine ⟨.int t, rfl, rfl, _, rfl, if_ne (by omega) ?_⟩
      refine iteF ?_
      refine ⟨.int t, rfl, rfl, _, rfl, if_ne (by omega) ?_⟩
      refine ⟨.int t, rfl, rfl, _, rfl, if_ne (by omega) ?_⟩
      exact ⟨⟨_, rfl⟩, .ref L, rfl, " ", L, _, rfl, rfl, .inl (.inl (.inl eG)), tx_sum ok', fin _ _ ok' (nLk k14 _) ((fd4.own m1 m2).more (by omega))⟩
    · rw [decide_eq_false t2]
      refine iteF ?_
      have wordG : ∀ y, (upd H4 L (.lst ((q.pts.map V.str).set (k + 3) (.str y)))) L = some (.lst ((Page.pts ⟨q.ask, q.pw, q.sz, q.ws.set k y⟩).map V.str)) := fun y => by
        rw [upd_same]
        show some (HO.lst (_ :: _ :: _ :: (q.ws.map V.str).set k _)) = some (HO.lst (_ :: _ :: _ :: (q.ws.set k _).map V.str))
        rw [List.map_set]
      have fd10 := fd4.more (show c + 2 + 1 ≤ c + 4 by omega)
      have t5 : t = 2 ∨ t = 3 ∨ t = 4 ∨ t = 5 := by omega
      rcases t5 with rfl | rfl | rfl | rfl
      · refine ⟨.int 2, rfl, rfl, _, rfl, if_eq rfl ?_⟩
        refine ⟨.str x, rfl, x, 0, 97 + k, rfl, rfl, lx7, atx0, .ref f, rfl, f, a, ns, c + 3, 3, rfl, by omega, by omega, fd4, by omega, fun z5 G7 y0 y3 k7 fd7 => ⟨1, z5, rfl, rfl, 1 + z5, rfl, ?_⟩⟩
        obtain ⟨ms, ml'⟩ := draw_str (b := 1) (m := 3) y0 y3 (by decide)
        refine ⟨ml', ?_⟩
        have ms : Str.ofString (toString (1 + z5)) = ⟨#[49 + z5.toNat]⟩ := ms
        rw [ms]
        have l1 : (⟨#[97 + k]⟩ : Str).length = 1 := rfl
        have l2 : (⟨#[49 + z5.toNat]⟩ : Str).length = 1 := rfl
        have l3 := cutS_length x (some 2) none
        have eL7 := k7 _ _ neLf eL4
        have ok' := ok.word (fee_ok (m := z5.toNat) wx (by rw [wk.cs]; rfl) (by omega))
        refine ⟨_, _, rfl, rfl, (by rw [l1, l2]; omega), .str x, rfl, 2, rfl, x, rfl, lx7, _, _, rfl, rfl, (by rw [len_app, l1, l2]; omega), .ref L, rfl, .int ((k + 3 : Nat) : Int), rfl, L, _, ((k + 3 : Nat) : Int), k + 3, rfl, rfl, eL7, ixk, ?_⟩
        have eG : (upd G7 L (.lst ((q.pts.map V.str).set (k + 3) (.str (((⟨#[97 + k]⟩ : Str) ++ ⟨#[49 + z5.toNat]⟩) ++ cutS x (some 2) none))))) L = some (.lst ((Page.pts ⟨q.ask, q.pw, q.sz, q.ws.set k (((⟨#[97 + k]⟩ : Str) ++ ⟨#[49 + z5.toNat]⟩) ++ cutS x (some 2) none)⟩).map V.str)) := by
          have z := wordG (((⟨#[97 + k]⟩ : Str) ++ ⟨#[49 + z5.toNat]⟩) ++ cutS x (some 2) none)
          rw [upd_same] at z ⊢
          exact z
        refine ⟨.int 2, rfl, rfl, _, rfl, if_ne (by decide) ?_⟩
        refine iteF ?_
        refine ⟨.int 2, rfl, rfl, _, rfl, if_ne (by decide) ?_⟩
        refine ⟨.int 2, rfl, rfl, _, rfl, if_ne (by decide) ?_⟩
        exact ⟨⟨_, rfl⟩, .ref L, rfl, " ", L, _, rfl, rfl, .inl (.inl (.inl eG)), tx_sum ok', fin _ _ ok' (nLk (k14.trans k7) _) ((fd7.own m1 m2).more (by omega))⟩
      · refine ⟨.int 3, rfl, rfl, _, rfl, if_ne (by decide) ?_⟩
        refine ⟨.int 3, rfl, rfl, _, rfl, if_eq rfl ?_⟩
        refine ⟨.str x, rfl, x, 0, 97 + k, rfl, rfl, lx7, atx0, .ref L, rfl, L, _, 0, .str ⟨#[q.ask]⟩, rfl, rfl, .inl (.inl eL4), atI_nat (j := 0) rfl, rfl, _, rfl, ?_⟩
        cases zz : decide (V.str ⟨#[97 + k]⟩ = V.str ⟨#[q.ask]⟩)
        · refine iteT ?_
          have ok' := ok.word (star_ok wx)
          have l3 := cutS_length x (some 2) none
          have l4 := cutS_length x none (some 2)
          have l5 : ("*" : Str).length = 1 := rfl
          have eS : (upd H4 L (.lst ((q.pts.map V.str).set (k + 3) (.str (starW x))))) L = _ := wordG (starW x)
          refine ⟨x, rfl, by omega, ?_⟩
          unfold starW at ok' eS
          cases zc : decide (42 ∈ x.cps.toList)
          · rw [zc, if_neg Bool.false_ne_true] at ok' eS
            refine iteF ?_
            refine ⟨.str x, rfl, 2, rfl, x, rfl, lx7, _, _, rfl, rfl, (by rw [l5]; omega), .str x, rfl, 2, rfl, x, rfl, lx7, _, _, rfl, rfl, (by rw [len_app, l5]; omega), ?_⟩
            refine ⟨.ref L, rfl, .int ((k + 3 : Nat) : Int), rfl, L, _, ((k + 3 : Nat) : Int), k + 3, rfl, rfl, eL4, ixk, ?_⟩
            refine ⟨.int 3, rfl, rfl, _, rfl, if_ne (by decide) ?_⟩
            refine ⟨.int 3, rfl, rfl, _, rfl, if_ne (by decide) ?_⟩
            exact ⟨⟨_, rfl⟩, .ref L, rfl, " ", L, _, rfl, rfl, .inl (.inl (.inl eS)), tx_sum ok', fin _ _ ok' (nLk k14 _) (fd10.own m1 m2)⟩
          · rw [zc, if_pos rfl] at ok' eS
            refine iteT ?_
            refine ⟨.ref L, rfl, .int ((k + 3 : Nat) : Int), rfl, L, _, ((k + 3 : Nat) : Int), k + 3, rfl, rfl, eL4, ixk, ?_⟩
            refine ⟨.int 3, rfl, rfl, _, rfl, if_ne (by decide) ?_⟩
            refine ⟨.int 3, rfl, rfl, _, rfl, if_ne (by decide) ?_⟩
            exact ⟨⟨_, rfl⟩, .ref L, rfl, " ", L, _, rfl, rfl, .inl (.inl (.inl eS)), tx_sum ok', fin _ _ ok' (nLk k14 _) (fd10.own m1 m2)⟩
        · refine iteF ?_
          refine ⟨.int 3, rfl, rfl, _, rfl, if_ne (by decide) ?_⟩
          refine ⟨.int 3, rfl, rfl, _, rfl, if_ne (by decide) ?_⟩
          exact ⟨⟨_, rfl⟩, .ref L, rfl, " ", L, _, rfl, rfl, .inl (.inl (.inl eL4)), tx_sum ok, fin _ _ ok k14 fd10⟩
      · refine ⟨.int 4, rfl, rfl, _, rfl, if_ne (by decide) ?_⟩
        refine ⟨.int 4, rfl, rfl, _, rfl, if_ne (by decide) ?_⟩
        refine iteF ?_
        refine ⟨.int 4, rfl, rfl, _, rfl, if_eq rfl ?_⟩
        have lsz := ok.sl
        have lszS : (⟨q.sz.toArray⟩ : Str).length ≤ sizeLine := by
          show q.sz.toArray.size ≤ _
          rw [List.size_toArray]
          omega
        refine ⟨.ref L, rfl, L, _, 2, .str ⟨q.sz.toArray⟩, rfl, rfl, .inl (.inl eL4), atI_nat (j := 2) rfl, .int ((k + 3 : Nat) : Int), rfl, ((k + 3 : Nat) : Int), 3, rfl, rfl, _, rfl, ⟨q.sz.toArray⟩, rfl, lszS, .ref f, rfl, f, a, ns, c + 3, 3, rfl, by omega, by omega, fd4, by omega, fun z5 G7 y0 y3 k7 fd7 => ⟨1, z5, rfl, rfl, 1 + z5, rfl, ?_⟩⟩
        obtain ⟨ms, ml'⟩ := draw_str (b := 1) (m := 3) y0 y3 (by decide)
        refine ⟨ml', ?_⟩
        have ms : Str.ofString (toString (1 + z5)) = ⟨#[49 + z5.toNat]⟩ := ms
        rw [ms]
        have eL7 := k7 _ _ neLf eL4
        have l2 : (⟨#[49 + z5.toNat]⟩ : Str).length = 1 := rfl
        have e1 : cutS ⟨q.sz.toArray⟩ none (some (((k + 3 : Nat) : Int) - 3)) = ⟨(q.sz.take k).toArray⟩ := by
          rw [show ((k + 3 : Nat) : Int) - 3 = (k : Nat) by omega]
          exact cut_to (by omega)
        have e2 : cutS ⟨q.sz.toArray⟩ (some (((k + 3 : Nat) : Int) - 2)) none = ⟨(q.sz.drop (k + 1)).toArray⟩ := by
          rw [show ((k + 3 : Nat) : Int) - 2 = ((k + 1 : Nat) : Int) by omega]
          exact cut_from (by omega)
        have b1 := cutS_length ⟨q.sz.toArray⟩ none (some (((k + 3 : Nat) : Int) - 3))
        have b2 := cutS_length ⟨q.sz.toArray⟩ (some (((k + 3 : Nat) : Int) - 2)) none
        have b3 : (⟨q.sz.toArray⟩ : Str).length = q.sz.length := by show q.sz.toArray.size = _; rw [List.size_toArray]
        refine ⟨_, _, rfl, rfl, (by rw [l2]; omega), .ref L, rfl, L, _, 2, .str ⟨q.sz.toArray⟩, rfl, rfl, .inl (.inl eL7), atI_nat (j := 2) rfl, .int ((k + 3 : Nat) : Int), rfl, ((k + 3 : Nat) : Int), 2, rfl, rfl, _, rfl, ⟨q.sz.toArray⟩, rfl, lszS, _, _, rfl, rfl, (by rw [len_app, l2]; omega), ?_⟩
        rw [e1, e2]
        have es : ((⟨(q.sz.take k).toArray⟩ : Str) ++ ⟨#[49 + z5.toNat]⟩) ++ ⟨(q.sz.drop (k + 1)).toArray⟩ = ⟨(q.sz.set k (49 + z5.toNat)).toArray⟩ := by
          have z : (((⟨(q.sz.take k).toArray⟩ : Str) ++ ⟨#[49 + z5.toNat]⟩) ++ ⟨(q.sz.drop (k + 1)).toArray⟩).cps.toList = q.sz.set k (49 + z5.toNat) := by
            rw [app_cps, app_cps, List.set_eq_take_append_cons_drop, if_pos (by omega)]
            show q.sz.take k ++ [49 + z5.toNat] ++ q.sz.drop (k + 1) = _
            rw [List.append_assoc]
            rfl
          generalize ((⟨(q.sz.take k).toArray⟩ : Str) ++ ⟨#[49 + z5.toNat]⟩) ++ ⟨(q.sz.drop (k + 1)).toArray⟩ = y at z ⊢
          obtain ⟨⟨l⟩⟩ := y
          have z : l = _ := z
          rw [z]
        rw [es]
        have ok' : PageOk ⟨q.ask, q.pw, q.sz.set k (49 + z5.toNat), q.ws⟩ := ⟨ok.n1, ok.n4, ok.ask, ok.pw, by show (q.sz.set k _).length = _; rw [List.length_set]; exact ok.sl, fun d hd => by
          rcases List.mem_or_eq_of_mem_set hd with h | rfl
          · exact ok.sd d h
          · omega, ok.each⟩
        refine ⟨.ref L, rfl, L, _, 2, 2, rfl, rfl, eL7, ixN_nat (n := (q.pts.map V.str).length) (j := 2) (by rw [lp]; omega), ?_⟩
        have eG : (upd G7 L (.lst ((q.pts.map V.str).set 2 (.str ⟨(q.sz.set k (49 + z5.toNat)).toArray⟩)))) L = some (.lst ((Page.pts ⟨q.ask, q.pw, q.sz.set k (49 + z5.toNat), q.ws⟩).map V.str)) := by
          rw [upd_same]
          rfl
        refine ⟨.int 4, rfl, rfl, _, rfl, if_ne (by decide) ?_⟩
        exact ⟨⟨_, rfl⟩, .ref L, rfl, " ", L, _, rfl, rfl, .inl (.inl (.inl eG)), tx_sum ok', fin _ _ ok' (nLk (k14.trans k7) _) ((fd7.own m1 m2).more (by omega))⟩
      · refine ⟨.int 5, rfl, rfl, _, rfl, if_ne (by decide) ?_⟩
        refine ⟨.int 5, rfl, rfl, _, rfl, if_ne (by decide) ?_⟩
        refine iteF ?_
        refine ⟨.int 5, rfl, rfl, _, rfl, if_ne (by decide) ?_⟩
        refine ⟨.int 5, rfl, rfl, _, rfl, if_eq rfl ?_⟩
        refine ⟨.ref f, rfl, f, a, ns, c + 3, 7, rfl, by omega, by omega, fd4, by omega, fun z5 G7 y0 y7 k7 fd7 => ⟨z5, rfl, ?_⟩⟩
        obtain ⟨ms, ml'⟩ := draw_str (b := 0) (m := 7) y0 y7 (by decide)
        rw [show ((0 : Nat) : Int) + z5 = z5 by omega] at ms ml'
        refine ⟨ml', ?_⟩
        rw [ms]
        have eL7 := k7 _ _ neLf eL4
        have ok' : PageOk ⟨q.ask, 0 + z5.toNat, q.sz, q.ws⟩ := ⟨ok.n1, ok.n4, ok.ask, by show 0 + z5.toNat ≤ 6; omega, ok.sl, ok.sd, ok.each⟩
        refine ⟨.ref L, rfl, L, _, 1, 1, rfl, rfl, eL7, ixN_nat (n := (q.pts.map V.str).length) (j := 1) (by rw [lp]; omega), ?_⟩
        have eG : (upd G7 L (.lst ((q.pts.map V.str).set 1 (.str ⟨#[48 + 0 + z5.toNat]⟩)))) L = some (.lst ((Page.pts ⟨q.ask, 0 + z5.toNat, q.sz, q.ws⟩).map V.str)) := by
          rw [upd_same, Nat.add_assoc]
          rfl
        exact ⟨⟨_, rfl⟩, .ref L, rfl, " ", L, _, rfl, rfl, .inl (.inl (.inl eG)), tx_sum ok', fin _ _ ok' (nLk (k14.trans k7) _) ((fd7.own m1 m2).more (by omega))⟩
end
end Kn


namespace Kn
open PySem PySem.Spec PyProof.Rows L2
open PySem.W (dataLe dataLt keyToks keyToksAll alike alikeAll AllAlike Sortable EachIs dataLe_eq dataLe_str dataLt_cons dataLt_tuple)
abbrev nRd : List Str := ["_law_text_in", "_law_names", "_law_parts", "_law_found", "_law_k", "_law_table", "_law_own", "_law_net", "_law_sign"]
theorem scRd : FnScope nRd ["_law_text_in", "_law_names"] (defScope (topS 28)) := ⟨rfl, rfl, rfl, by decide +kernel, rfl, by decide +kernel, by decide +kernel⟩
/-! ### kinds with their numbers -/
abbrev Ce := Addr × V × Ent × Int
def dCe (c : Ce) : PyData := .tuple [dEnt c.2.2.1, .int c.2.2.2]
def CeAt (K : PySem.W.Frag) (H : Hp) (c : Ce) : Prop := SqT K H c.1 [c.2.1, .int c.2.2.2] ∧ EntAt K H c.2.1 c.2.2.1
theorem CeAt.same {K : PySem.W.Frag} {H H' : Hp} {c : Ce} (s : Same H H') (h : CeAt K H c) : CeAt K H' c := ⟨tupS s h.1, h.2.same s⟩
theorem CeAt.ts {K : PySem.W.Frag} {H H' : Hp} {c : Ce} (s : TS H H') (h : CeAt K H c) : CeAt K H' c := ⟨tupT s h.1, h.2.ts s⟩
theorem CeAt.dp {K : PySem.W.Frag} {H : Hp} {c : Ce} (h : CeAt K H c) : Dp K H (.ref c.1) (dCe c) := .tup h.1 (.cons h.2.dp (.cons (.int _) .nil))
theorem ce_deep (c : Ce) : (dCe c).depth ≤ 8 := by
  have z : (dCe c).depth = max (dEnt c.2.2.1).depth (max 0 0) + 1 := rfl
  have y : (dEnt c.2.2.1).depth = max 0 (max 0 (max 0 (max (PyData.depthAll (c.2.2.1.row.map PyData.str) + 1) 0))) + 1 := rfl
  rw [z, y, strs_flat0]
  decide
theorem ce_alike (c c' : Ce) : alike (dCe c) (dCe c') = true := by
  show (alike (dEnt c.2.2.1) (dEnt c'.2.2.1) && (true && true)) = true
  rw [ent_alike]
  rfl
theorem ent_ne {x y : Ent} (h : x.name ≠ y.name) : PyData.eqv (dEnt x) (dEnt y) = false := by
  show ((x.name == y.name) && _) = false
  rw [beq_eq_false_iff_ne.mpr h]
  rfl
theorem le_ceN {x y : Ce} (h : x.2.2.1.name ≠ y.2.2.1.name) : (!dataLt (dCe y) (dCe x)) = leS x.2.2.1.name y.2.2.1.name := by
  rw [← le_entN h]
  unfold dCe
  rw [PySem.W.dataLt_pair (ent_alike _ _) rfl, if_neg (by rw [ent_ne fun e => h e.symm]; decide)]
theorem ces_ents {K : PySem.W.Frag} {H : Hp} : ∀ {cs : List Ce}, (∀ c ∈ cs, CeAt K H c) → EntsAt K H (cs.map (·.2.1)) (cs.map (·.2.2.1))
  | [], _ => .nil
  | c :: cs, h => .cons (h c (List.mem_cons_self ..)).2 (ces_ents fun x hx => h x (List.mem_cons_of_mem _ hx))
theorem find_ab {d : Nat} (h : 97 ≤ d ∧ d < 101) : Txt.find "abcd" ⟨#[d]⟩ = ((d - 97 : Nat) : Int) := by
  have : d = 97 ∨ d = 98 ∨ d = 99 ∨ d = 100 := by omega
  rcases this with rfl | rfl | rfl | rfl <;> decide +kernel
theorem num_dig {c : Nat} (h : 48 ≤ c ∧ c ≤ 57) : PySem.intText? (⟨#[c]⟩ : Str) = some ((c : Int) - 48) := by
  have : c = 48 ∨ c = 49 ∨ c = 50 ∨ c = 51 ∨ c = 52 ∨ c = 53 ∨ c = 54 ∨ c = 55 ∨ c = 56 ∨ c = 57 := by omega
  rcases this with rfl | rfl | rfl | rfl | rfl | rfl | rfl | rfl | rfl | rfl <;> decide +kernel
theorem nm_at {nm : List Str} (N : NmOk nm) {d : Nat} (h : 97 ≤ d ∧ d < 101) : atI (nm.map V.str) (Txt.find "abcd" ⟨#[d]⟩) = some (.str (nmAt nm d)) := by
  rw [find_ab h]
  refine atI_nat ?_
  rw [List.getElem?_map, (nm_in N h).2]
  rfl
def rFind : V → List V → Hp → VK → Prop := fun x xs H Q => ∃ a b, x = .str a ∧ xs = [.str b] ∧ Q (.int (Txt.find a b)) H
theorem pe_find {X : Cx} {K : PySem.W.Frag} {o e : Expr} {to : TE} {ta : TA} {apos cpos : Pos} (ek : X.K = K) (ho : PE X o to) (ha : PA X [e] ta)
    (hbase : attributeBase o "find" X.env (eval o X.env) = eval o X.env := by rfl)
    (hfew : ((backTo cpos (starEach [e] X.env)).all (fun x => !x.1) && (backToKw cpos (keywordEach [] X.env)).all (fun x => x.1.isSome) && decide ([e].length + ([] : List Keyword).length + (if ([] : List Keyword).isEmpty then 0 else 1) < 30)) = true := by rfl)
    (hline : (apos.endLine == cpos.line) = true := by rfl) (hs : starEach [e] X.env = (false, eval e X.env) :: starEach [] X.env := by rfl) (hplain : (backTo cpos (starEach [] X.env)).any (·.1) = false := by rfl) :
    PE X (.Call (.Attribute o "find" apos) [e] [] cpos) (tBM K "str" rFind to ta) := by
  subst ek
  exact pe_bm PySem.F.plainAttrs_str PySem.F.slot_str_find PySem.F.type_str_find mt_find ho ha hbase hfew hline hs hplain
def spRd (K : PySem.W.Frag) : Sp := fun vs H Q _ => ∃ (q : Page) (nl : Addr) (nm : List Str), vs = [.str q.tx, .ref nl] ∧ SqL K H nl (nm.map V.str) ∧ NmOk nm ∧ PageOk q ∧
  ∀ (t z : Addr) (v : V) (g : Pg) (ms : List Int) (H' : Hp), Same H H' → H' t = some (.tup [v, .int (q.pw : Nat), .ref z]) → PgAt K H' v g → NamedA g q.ws nm q.ask → SrtN g → H' z = some (.tup (ms.map V.int)) → ms.length = g.es.length → (∀ m ∈ ms, 1 ≤ m ∧ m ≤ 4) → Q (.ref t) H'
section
variable {P : Program} {w : World} {K : PySem.W.Frag} {mg : Str → Option Value} {base : Heap}
theorem ok_rd {f : Addr} {fd : FuncData} (F : Fun K "_law_read" "_law_read" (topS 28) f fd) (ml : mg "len" = none) (mr : mg "range" = none) (mi : mg "int" = none) (mt : mg "tuple" = none) (mo : mg "sorted" = none) : FnOk P w K mg base CX0 1 f fd ["_law_text_in", "_law_names"] (spRd K) := by
  refine F.ok scRd (fun vs H Q E h => ?_) (fun cdv A outer s H vs Q E hr h => ?_)
  · obtain ⟨q, nl, nm, rfl, _⟩ := h
    rfl
  · obtain ⟨q, nl, nm, rfl, hn, N, ok, fin⟩ := h
    have hu64 := hr.units
    refine ⟨_, (pss_cons (ps_par (i := 2) (j := 3) (by rfl) scRd.nd rfl rfl (by decide) rfl rfl (pa_cons (pe_split (pv 0) pe_str) (pa_cons (pe_lst pa_nil) pa_nil)) (by rfl))
      (pss_cons (ps_for PassesOwn.never rfl (pi_range2 (by rfl) mr (pa_cons pe_int (pa_cons (pe_callB call_len_seq (by rfl) ml PySem.boot_len (pa_cons (pv 2) pa_nil)) pa_nil))) (pg_name (i := 4) scRd.nd rfl (.inl rfl)) (pss_cons (ps_set (i := 5) scRd.nd rfl (.inl rfl) (pe_callB cr_sortedS (by rfl) mo (by decide +kernel) (pa_cons (pe_lc (own := [("_law_sign", 8)]) (g := gName 8) (by rfl) scRd.nd (pi_str (pe_slice sl_str (pe_ix ix_list (pv 2) (pv 4) (fun _ _ => rfl)) (po_some pe_int) po_none)) (blkOk_by (own := [("_law_sign", 8)]) (N := nRd) (sc := defScope (topS 28)) (by decide +kernel)) (fun _ _ _ _ _ => (pg_name (i := 8) scRd.nd rfl (Or.inl rfl))) (fun _ _ _ _ _ => (pts_one (pt_cmpR op_ne (pv 8) pe_str (nomark _)))) (fun _ _ _ _ _ => (pe_ix (r := rIxL K) ix_list (pv 1) (pe_find (K := K) rfl pe_str (pa_cons (pv 8) pa_nil)) (fun _ _ => rfl)))) pa_nil)))
      (pss_cons (ps_set (i := 6) scRd.nd rfl (.inl rfl) (pe_tup (pa_cons (pe_ix ix_list (pv 1) (pe_find (K := K) rfl pe_str (pa_cons (pe_ix ix_str (pe_ix ix_list (pv 2) (pv 4) (fun _ _ => rfl)) pe_int (fun _ _ => rfl)) pa_nil)) (fun _ _ => rfl)) (pa_cons (pe_callTy call_int_str (by rfl) mi boot_int (pa_cons (pe_ix ix_str (pe_ix ix_list (pv 2) (pv 4) (fun _ _ => rfl)) pe_int (fun _ _ => rfl)) pa_nil)) (pa_cons (pe_cmpR op_in_sign pe_str (pe_ix ix_list (pv 2) (pv 4) (fun _ _ => rfl)) (by rfl)) (pa_cons (pe_callTy call_tuple_of (by rfl) mt (by decide +kernel) (pa_cons (pv 5) pa_nil)) pa_nil))))))
      (pss_one (ps_expr (pe_bm PySem.F.plainAttrs_list PySem.F.slot_list_append PySem.F.type_list_append mt_append (pv 3) (pa_cons (pe_tup (pa_cons (pv 6) (pa_cons (pe_callTy call_int_str (by rfl) mi boot_int (pa_cons (pe_ix ix_str (pe_ix ix_list (pv 2) pe_int (fun _ _ => rfl)) (pe_op op_sub (pv 4) pe_int) (fun _ _ => rfl)) pa_nil)) pa_nil))) pa_nil)))))))
      (pss_cons (ps_set (i := 3) scRd.nd rfl (.inl rfl) (pe_callB (cr_sortedD hu64) (by rfl) mo (by decide +kernel) (pa_cons (pv 3) pa_nil)))
      (pss_cons (ps_set (i := 7) scRd.nd rfl (.inl rfl) (pe_tup (pa_cons (pe_callTy call_tuple_of (by rfl) mt (by decide +kernel) (pa_cons (pe_lc (own := [("_law_own", 6)]) (g := gName 6) (by rfl) scRd.nd (pi_list (pv 3)) (blkOk_by (own := [("_law_own", 6)]) (N := nRd) (sc := defScope (topS 28)) (by decide +kernel)) (fun _ _ _ _ _ => (pg_name (i := 6) scRd.nd rfl (Or.inl rfl))) (fun _ _ _ _ _ => pts_nil) (fun _ _ _ _ _ => (pe_ix (r := rIxT K) ix_tup (pv 6) pe_int (fun _ _ => rfl)))) pa_nil)) (pa_cons (pe_ix ix_list (pv 1) (pe_find (K := K) rfl pe_str (pa_cons (pe_ix ix_list (pv 2) pe_int (fun _ _ => rfl)) pa_nil)) (fun _ _ => rfl)) pa_nil))))
      (pss_one (ps_ret (pe_tup (pa_cons (pv 7) (pa_cons (pe_callTy call_int_str (by rfl) mi boot_int (pa_cons (pe_ix ix_list (pv 2) pe_int (fun _ _ => rfl)) pa_nil)) (pa_cons (pe_callTy call_tuple_of (by rfl) mt (by decide +kernel) (pa_cons (pe_lc (own := [("_law_own", 6)]) (g := gName 6) (by rfl) scRd.nd (pi_list (pv 3)) (blkOk_by (own := [("_law_own", 6)]) (N := nRd) (sc := defScope (topS 28)) (by decide +kernel)) (fun _ _ _ _ _ => (pg_name (i := 6) scRd.nd rfl (Or.inl rfl))) (fun _ _ _ _ _ => pts_nil) (fun _ _ _ _ _ => (pe_ix (r := rIxT K) ix_tup (pv 6) pe_int (fun _ _ => rfl)))) pa_nil)) pa_nil)))))))))), ?_⟩
    have n1 := ok.n1
    have n4 := ok.n4
    have lt := ok.len
    have W := ok.W
    refine ⟨.str q.tx, rfl, ⟨_, rfl⟩, _, _, rfl, rfl, rfl, Nat.le_trans (show q.tx.length + 2 ≤ 1000 by omega) (by decide), fun L nL => ⟨(show 0 ≤ sizeLine by decide), fun R nR => ⟨_, _, rfl, ?_⟩⟩⟩
    rw [ok.split] at nR ⊢
    have s1 := same_new (o := .lst (q.pts.map V.str)) nL
    have eL0 : (upd H L (.lst (q.pts.map V.str))) L = some (.lst (q.pts.map V.str)) := upd_same
    have s2 := same_new (o := .lst []) nR
    have s12 := s1.trans s2
    have eL := s2 _ _ eL0
    have eR : (upd (upd H L (.lst (q.pts.map V.str))) R (.lst [])) R = some (.lst []) := upd_same
    have neLR : L ≠ R := ne_of_none eL0 nR
    have nR0 : H R = none := s1.free nR
    generalize upd (upd H L (.lst (q.pts.map V.str))) R (.lst []) = H1 at s12 eL eR ⊢
    dsimp only [List.set]
    have lp : (q.pts.map V.str).length = q.ws.length + 3 := by rw [List.length_map]; rfl
    have n3 : (((q.pts.map V.str).length : Nat) - 3 : Int).toNat = q.ws.length := by rw [lp]; omega
    refine ⟨.ref L, rfl, L, _, rfl, .inl (.inl (.inl eL)), 3, _, rfl, ⟨by decide, by decide, by omega, by omega⟩, ?_⟩
    rw [n3]
    have big : 1000 ≤ sizeLine := by decide
    refine for_range (lo := 3) (n := q.ws.length) (fun i σ G => ∃ (y4 y5 y6 : Option V) (cs : List Ce), σ = [some (.str q.tx), some (.ref nl), some (.ref L), some (.ref R), y4, y5, y6, none, none] ∧ Same H G ∧ G L = some (.lst (q.pts.map V.str)) ∧ G R = some (.lst (cs.map fun c => .ref c.1)) ∧ (∀ c ∈ cs, CeAt K G c) ∧ cs.length = i ∧ ∀ (j : Nat) (x : Str), j < i → q.ws[j]? = some x → ∃ c, cs[j]? = some c ∧ EntW nm x c.2.2.1 ∧ 1 ≤ c.2.2.2 ∧ c.2.2.2 ≤ 4)
      ⟨none, none, none, [], rfl, s12, eL, eR, (fun _ h => by cases h), rfl, fun j x h => absurd h (Nat.not_lt_zero j)⟩ ?_ ?_
    · rintro i σ G hi ⟨y4, y5, y6, cs, rfl, sG, eLG, eRG, hcs, lcs, each⟩
      dsimp only [gName, List.set]
      rw [show (3 : Int) + (i : Nat) = ((i + 3 : Nat) : Int) by omega]
      have hx : q.ws[i]? = some (q.ws[i]'hi) := List.getElem?_eq_getElem hi
      generalize q.ws[i]'hi = x at hx
      obtain ⟨c0, rest, wk⟩ := wordK_is (ok.each i x hx)
      have lx := wk.len
      have lr := wk.few
      have hpx : (q.pts.map V.str)[i + 3]? = some (.str x) := by
        show (q.ws.map V.str)[i]? = _
        rw [List.getElem?_map, hx]
        rfl
      have lx7 : x.length ≤ sizeLine := by omega
      have cut : cutS x (some 2) none = ⟨rest.toArray⟩ := cut2 wk.cs
      have hnG := sqlKeep sG hn
      have rowLe : ∀ l : List Nat, l.length ≤ 5 → (rowW nm l).length ≤ 5 := fun l h => by
        unfold rowW
        rw [List.length_map]
        exact Nat.le_trans (List.length_filter_le _ _) h
      refine asg_seq ⟨.ref L, rfl, .int ((i + 3 : Nat) : Int), rfl, L, _, ((i + 3 : Nat) : Int), .str x, rfl, rfl, .inl (.inl eLG), atI_nat hpx, 2, rfl, x, rfl, lx7, ⟨_, rfl, fun D nD => ?_⟩⟩
      rw [cut]
      refine lc_it (walk_str (z := ⟨rest.toArray⟩)) (fun j G5 => Same G G5 ∧ G5 D = some (.lst ((rowW nm (rest.take j)).map V.str))) ⟨same_new nD, upd_same⟩ (fun _ _ _ _ => trivial) ?_ ?_
      · rintro j xv G5 G6 hj ⟨s5, eD⟩ ⟨rfl, d, hd', rfl⟩
        have hd' : rest[j]? = some d := by
          have z : (rest.toArray)[j]? = some d := hd'
          rw [List.getElem?_toArray] at z
          exact z
        have tk : rowW nm (rest.take (j + 1)) = rowW nm (rest.take j) ++ (if d = 42 then [] else [nmAt nm d]) := by
          unfold rowW
          rw [List.take_add_one, hd', Option.toList_some, List.filter_append, List.map_append]
          by_cases z : d = 42
          · rw [if_pos z, z]
            rfl
          · rw [if_neg z, List.filter_cons, if_pos (decide_eq_true z)]
            rfl
        refine ⟨rfl, ?_⟩
        refine ⟨.str ⟨#[d]⟩, rfl, rfl, _, rfl, ?_⟩
        by_cases z : d = 42
        · rw [if_pos z, List.append_nil] at tk
          subst z
          rw [tk]
          rw [decide_eq_true (show V.str ⟨#[42]⟩ = V.str "*" from rfl)]
          exact iteF ⟨s5, eD⟩
        · rw [if_neg z] at tk
          have ne : ¬ V.str ⟨#[d]⟩ = V.str "*" := fun e => by
            injection e with e
            have e : (#[d] : Array Nat) = #[42] := congrArg Str.cps e
            exact z (by simpa using e)
          rw [decide_eq_false ne]
          have dr : 97 ≤ d ∧ d < 101 := by
            rcases wk.all d (List.mem_of_getElem? hd') with h | h
            · exact absurd h z
            · omega
          have lenr := rowLe (rest.take j) (by rw [List.length_take]; omega)
          refine iteT ⟨.ref nl, rfl, rfl, .str ⟨#[d]⟩, rfl, "abcd", ⟨#[d]⟩, rfl, rfl, nl, _, _, .str (nmAt nm d), rfl, rfl, sqlKeep s5 hnG, nm_at N dr, _, eD, small' (by rw [List.length_map]; omega), putS s5 nD, ?_⟩
          rw [upd_same, tk, List.map_append]
          rfl
      · rintro G5 ⟨s5, eD⟩
        have full : rest.take (rest.toArray).size = rest := List.take_of_length_le (by rw [List.size_toArray]; exact Nat.le_refl _)
        rw [full] at eD
        have ll := rowLe rest (by omega)
        refine ⟨D, rowW nm rest, rfl, .inl (.inl eD), by omega, fun ys p pm _ np => ?_⟩
        have s6 := s5.trans (same_new (o := .lst (ys.map V.str)) np)
        have ep : (upd G5 p (.lst (ys.map V.str))) p = some (.lst (ys.map V.str)) := upd_same
        generalize upd G5 p (.lst (ys.map V.str)) = G6 at s6 ep ⊢
        dsimp only [gName, List.set]
        have eL6 := s6 _ _ eLG
        have hn6 := sqlKeep s6 hnG
        have ra : 97 ≤ 97 + i ∧ 97 + i < 101 := by omega
        have at0 : atI x.cps.toList ((0 : Nat) : Int) = some (97 + i) := atI_nat (by rw [wk.cs]; rfl)
        have a1 : atI x.cps.toList ((1 : Nat) : Int) = some c0 := atI_nat (by rw [wk.cs]; rfl)
        have wc := wk.c1
        refine asg_seq ⟨.ref nl, rfl, rfl, .ref L, rfl, .int ((i + 3 : Nat) : Int), rfl, L, _, ((i + 3 : Nat) : Int), .str x, rfl, rfl, .inl (.inl eL6), atI_nat hpx, x, 0, 97 + i, rfl, rfl, lx7, at0, "abcd", ⟨#[97 + i]⟩, rfl, rfl, nl, _, _, .str (nmAt nm (97 + i)), rfl, rfl, hn6, nm_at N ra, ?_⟩
        refine ⟨.ref L, rfl, .int ((i + 3 : Nat) : Int), rfl, L, _, ((i + 3 : Nat) : Int), .str x, rfl, rfl, .inl (.inl eL6), atI_nat hpx, x, 1, c0, rfl, rfl, lx7, a1, ⟨#[c0]⟩, _, rfl, num_dig (by omega), (show 1 ≤ 640 by decide), ?_⟩
        refine ⟨.ref L, rfl, .int ((i + 3 : Nat) : Int), rfl, L, _, ((i + 3 : Nat) : Int), .str x, rfl, rfl, .inl (.inl eL6), atI_nat hpx, 42, x, rfl, rfl, ?_⟩
        refine ⟨.ref p, rfl, p, ys.map V.str, rfl, .inl ⟨.inl (.inl ep), fun t nt => ⟨(show 4 ≤ sizeLine by decide), fun te nte => ?_⟩⟩⟩
        have s7 := same_new (o := .tup (ys.map V.str)) nt
        have et : (upd G6 t (.tup (ys.map V.str))) t = some (.tup (ys.map V.str)) := upd_same
        have s67 := s6.trans s7
        generalize upd G6 t (.tup (ys.map V.str)) = G7 at nte s7 et s67 ⊢
        have s8 := same_new (o := .tup [.str (nmAt nm (97 + i)), .int ((c0 : Int) - 48), .bl (decide (42 ∈ x.cps.toList)), .ref t]) nte
        have ee : (upd G7 te (.tup [.str (nmAt nm (97 + i)), .int ((c0 : Int) - 48), .bl (decide (42 ∈ x.cps.toList)), .ref t])) te = some (.tup [.str (nmAt nm (97 + i)), .int ((c0 : Int) - 48), .bl (decide (42 ∈ x.cps.toList)), .ref t]) := upd_same
        have et8 := s8 _ _ et
        have s08 := s67.trans s8
        generalize upd G7 te (.tup [.str (nmAt nm (97 + i)), .int ((c0 : Int) - 48), .bl (decide (42 ∈ x.cps.toList)), .ref t]) = G8 at s8 ee et8 s08 ⊢
        dsimp only [gName, List.set]
        have eL8 := s08 _ _ eLG
        have eR8 := s08 _ _ eRG
        have lsz := ok.sl
        have hz : q.sz[i]? = some (q.sz[i]'(by omega)) := List.getElem?_eq_getElem (by omega)
        generalize q.sz[i]'(by omega) = dz at hz
        have rz := ok.sd dz (List.mem_of_getElem? hz)
        have lszS : (⟨q.sz.toArray⟩ : Str).length ≤ sizeLine := by
          show q.sz.toArray.size ≤ _
          rw [List.size_toArray]
          omega
        refine ⟨.ref R, rfl, .inl ⟨rfl, _, .inl (.inl eR8)⟩, .ref te, rfl, .ref L, rfl, L, _, 2, .str ⟨q.sz.toArray⟩, rfl, rfl, .inl (.inl eL8), atI_nat (j := 2) rfl, .int ((i + 3 : Nat) : Int), rfl, ((i + 3 : Nat) : Int), 3, rfl, rfl, ⟨q.sz.toArray⟩, _, dz, rfl, rfl, lszS, ?_, ⟨#[dz]⟩, _, rfl, num_dig (by omega), (show 1 ≤ 640 by decide), (show 2 ≤ sizeLine by decide), fun tp ntp => ?_⟩
        · rw [show ((i + 3 : Nat) : Int) - 3 = (i : Nat) by omega]
          exact atI_nat hz
        have s9 := same_new (o := .tup [.ref te, .int ((dz : Int) - 48)]) ntp
        have neRp : R ≠ tp := ne_of_none eR8 ntp
        have eR9 : (upd G8 tp (.tup [.ref te, .int ((dz : Int) - 48)])) R = some (.lst (cs.map fun c => .ref c.1)) := (upd_ne neRp).trans eR8
        have et9 : (upd G8 tp (.tup [.ref te, .int ((dz : Int) - 48)])) tp = some (.tup [.ref te, .int ((dz : Int) - 48)]) := upd_same
        have s09 := s08.trans s9
        have ee9 := s9 _ _ ee
        have et89 := s9 _ _ et8
        have eL9 := s9 _ _ eL8
        generalize upd G8 tp (.tup [.ref te, .int ((dz : Int) - 48)]) = G9 at s9 eR9 et9 s09 ee9 et89 eL9 ⊢
        refine ⟨R, _, _, rfl, rfl, eR9, small' (by rw [List.length_map]; omega), ?_⟩
        have t9 : TS G9 (upd G9 R (.lst ((cs.map fun c => V.ref c.1) ++ [.ref tp]))) := ts_lst eR9
        refine ⟨_, _, _, cs ++ [(tp, .ref te, ⟨nmAt nm (97 + i), (c0 : Int) - 48, decide (42 ∈ x.cps.toList), ys⟩, (dz : Int) - 48)], rfl, putS (sG.trans s09) nR0, (upd_ne neLR).trans eL9, by rw [upd_same, List.map_append]; rfl, fun c hc => ?_, by rw [List.length_append, lcs]; rfl, fun j x' hj hx' => ?_⟩
        · rcases List.mem_append.mp hc with h | h
          · exact ((hcs c h).same s09).ts t9
          · rw [List.mem_singleton.mp h]
            exact CeAt.ts t9 ⟨.inl (.inl et9), te, t, rfl, .inl (.inl ee9), .inl (.inl et89)⟩
        · rcases Nat.lt_succ_iff_lt_or_eq.mp hj with lt | rfl
          · obtain ⟨c, hc, E⟩ := each j x' lt hx'
            exact ⟨c, (List.getElem?_append_left (by omega)).trans hc, E⟩
          · obtain rfl : x = x' := Option.some.inj (hx.symm.trans hx')
            refine ⟨_, by rw [List.getElem?_append_right (by omega), lcs, Nat.sub_self]; rfl, ⟨97 + j, c0, rest, wk.cs, rfl, rfl, rfl, pm⟩, ?_, ?_⟩
            · show (1 : Int) ≤ (dz : Int) - 48
              omega
            · show (dz : Int) - 48 ≤ 4
              omega
    · rintro σ G ⟨y4, y5, y6, cs, rfl, sG, eLG, eRG, hcs, lcs, each⟩
      dsimp only
      refine asg_seq ⟨.ref R, rfl, R, cs.map fun c => (V.ref c.1, dCe c), rfl, .inl (.inl ?_), fun c hc => ?_, ?_, ?_, fun l qs nl1 pm pw => ?_⟩
      · rw [List.map_map]
        exact eRG
      · obtain ⟨c', hc', rfl⟩ := List.mem_map.mp hc
        exact ⟨(hcs c' hc').dp, ce_deep c'⟩
      · rw [List.map_map]
        intro d hd d' hd'
        obtain ⟨_, _, rfl⟩ := List.mem_map.mp hd
        obtain ⟨_, _, rfl⟩ := List.mem_map.mp hd'
        exact ce_alike _ _
      · rw [List.map_map]
        refine .inl fun d hd => ?_
        obtain ⟨_, _, rfl⟩ := List.mem_map.mp hd
        exact ⟨_, _, rfl⟩
      · obtain ⟨es, pe, rfl⟩ := lift_perm qs cs pm
        have ees : (es.map fun c : Ce => (V.ref c.1, dCe c)).map (·.1) = es.map fun c => V.ref c.1 := by rw [List.map_map]; rfl
        rw [ees]
        have s4 := same_new (o := .lst (es.map fun c => V.ref c.1)) nl1
        have el : (upd G l (.lst (es.map fun c => V.ref c.1))) l = some (.lst (es.map fun c => V.ref c.1)) := upd_same
        generalize upd G l (.lst (es.map fun c => V.ref c.1)) = G4 at s4 el ⊢
        have he4 : ∀ c ∈ es, CeAt K G4 c := fun c hc => (hcs c (pe.mem_iff.mp hc)).same s4
        have eL4 := s4 _ _ eLG
        have hn4 := sqlKeep (sG.trans s4) hn
        have les : es.length ≤ 4 := by rw [pe.length_eq]; omega
        have ask := ok.ask
        have pw6 := ok.pw
        dsimp only [gName, List.set]
        refine asg_seq ⟨.ref l, rfl, l, rfl, ⟨_, .inl (.inl el)⟩, fun D nD => ?_⟩
        refine lc_sel (walk_list (K := K) (a := l) (xs := es.map fun c => V.ref c.1)) es (fun c => some c.2.1) nD (by rw [List.length_map]) (by rw [List.length_map]; omega) (fun G s => .inl (.inl (s _ _ el))) ?_ ?_
        · intro j x c G' N' Y hx hc sm no yes
          rw [List.getElem?_map, hc] at hx
          obtain rfl : V.ref c.1 = x := Option.some.inj hx
          have z := (he4 c (List.mem_of_getElem? hc)).same sm
          refine ⟨rfl, ?_⟩
          dsimp only [tYes]
          refine iteT ⟨.ref c.1, rfl, c.1, _, 0, c.2.1, rfl, rfl, z.1, atI_nat (j := 0) rfl, yes _ G' (Same.refl G') rfl⟩
        intro G5 s5 eD
        have ef : (es.filterMap fun c : Ce => some c.2.1) = es.map fun c => c.2.1 := congrFun (List.filterMap_eq_map (f := fun c : Ce => c.2.1)) es
        rw [ef] at eD
        refine ⟨D, _, rfl, .inl ⟨.inl (.inl eD), fun t nt => ?_⟩⟩
        have s6 := same_new (o := .tup (es.map fun c => c.2.1)) nt
        have et : (upd G5 t (.tup (es.map fun c => c.2.1))) t = some (.tup (es.map fun c => c.2.1)) := upd_same
        have s46 := s5.trans s6
        generalize upd G5 t (.tup (es.map fun c => c.2.1)) = G6 at s6 et s46 ⊢
        refine ⟨.ref nl, rfl, rfl, .ref L, rfl, L, _, 0, .str ⟨#[q.ask]⟩, rfl, rfl, .inl (.inl (s46 _ _ eL4)), atI_nat (j := 0) rfl, "abcd", ⟨#[q.ask]⟩, rfl, rfl, nl, _, _, .str (nmAt nm q.ask), rfl, rfl, sqlKeep s46 hn4, nm_at N ⟨by omega, by omega⟩, (show 2 ≤ sizeLine by decide), fun b nb => ?_⟩
        have s7 := same_new (o := .tup [.ref t, .str (nmAt nm q.ask)]) nb
        have eb : (upd G6 b (.tup [.ref t, .str (nmAt nm q.ask)])) b = some (.tup [.ref t, .str (nmAt nm q.ask)]) := upd_same
        have et7 := s7 _ _ et
        have s47 := s46.trans s7
        generalize upd G6 b (.tup [.ref t, .str (nmAt nm q.ask)]) = G7 at s7 eb et7 s47 ⊢
        dsimp only [gName, List.set]
        refine ⟨.ref b, rfl, .ref L, rfl, L, _, 1, .str ⟨#[48 + q.pw]⟩, rfl, rfl, .inl (.inl (s47 _ _ eL4)), atI_nat (j := 1) rfl, ⟨#[48 + q.pw]⟩, _, rfl, num_dig (by omega), (show 1 ≤ 640 by decide), .ref l, rfl, l, rfl, ⟨_, .inl (.inl (s47 _ _ el))⟩, fun D2 nD2 => ?_⟩
        refine lc_sel (walk_list (K := K) (a := l) (xs := es.map fun c => V.ref c.1)) es (fun c => some (V.int c.2.2.2)) nD2 (by rw [List.length_map]) (by rw [List.length_map]; omega) (fun G s => .inl (.inl (s _ _ (s47 _ _ el)))) ?_ ?_
        · intro j x c G' N' Y hx hc sm no yes
          rw [List.getElem?_map, hc] at hx
          obtain rfl : V.ref c.1 = x := Option.some.inj hx
          have z := (he4 c (List.mem_of_getElem? hc)).same (s47.trans sm)
          refine ⟨rfl, ?_⟩
          dsimp only [tYes]
          refine iteT ⟨.ref c.1, rfl, c.1, _, 1, .int c.2.2.2, rfl, rfl, z.1, atI_nat (j := 1) rfl, yes _ G' (Same.refl G') rfl⟩
        intro G8 s8 eD2
        have ef2 : (es.filterMap fun c : Ce => some (V.int c.2.2.2)) = (es.map fun c => c.2.2.2).map V.int := by
          rw [List.map_map]
          exact congrFun (List.filterMap_eq_map (f := fun c : Ce => V.int c.2.2.2)) es
        rw [ef2] at eD2
        refine ⟨D2, _, rfl, .inl ⟨.inl (.inl eD2), fun t2 nt2 => ⟨(show 3 ≤ sizeLine by decide), fun b2 nb2 => ?_⟩⟩⟩
        rw [show ((48 + q.pw : Nat) : Int) - 48 = (q.pw : Nat) by omega]
        have s9 := same_new (o := .tup ((es.map fun c => c.2.2.2).map V.int)) nt2
        have et2 : (upd G8 t2 (.tup ((es.map fun c => c.2.2.2).map V.int))) t2 = some (.tup ((es.map fun c => c.2.2.2).map V.int)) := upd_same
        have s49 := (s47.trans s8).trans s9
        have eb9 := s9 _ _ (s8 _ _ eb)
        have et9 := s9 _ _ (s8 _ _ et7)
        generalize upd G8 t2 (.tup ((es.map fun c => c.2.2.2).map V.int)) = G9 at nb2 s9 et2 s49 eb9 et9 ⊢
        have s10 := same_new (o := .tup [.ref b, .int (q.pw : Nat), .ref t2]) nb2
        have all := s49.trans s10
        have nmd : NamedA ⟨es.map fun c => c.2.2.1, nmAt nm q.ask⟩ q.ws nm q.ask := ⟨rfl, (ok.heads _).mpr ⟨by omega, by omega⟩, cs.map fun c => c.2.2.1, pe.map _, by rw [List.length_map]; exact lcs, fun j x hx => by
          obtain ⟨c, hc, E, _⟩ := each j x (List.getElem?_eq_some_iff.mp hx).1 hx
          exact ⟨c.2.2.1, by rw [List.getElem?_map, hc]; rfl, E⟩⟩
        refine fin b2 t2 (.ref b) ⟨es.map fun c => c.2.2.1, nmAt nm q.ask⟩ (es.map fun c => c.2.2.2) _ ((sG.trans s4).trans all) upd_same ⟨b, t, es.map (·.2.1), rfl, .inl (.inl (s10 _ _ eb9)), .inl (.inl (s10 _ _ et9)), ces_ents fun c hc => (he4 c hc).same all⟩ nmd ?_ (s10 _ _ et2) (by rw [List.length_map]; exact (List.length_map ..).symm) fun m hm => ?_
        · have nd : ((es.map fun c : Ce => c.2.2.1).map (·.name)).Nodup := (nameda_good W N nmd).nd
          have h1 := List.pairwise_map.mp pw
          have h2 := List.pairwise_map.mp (List.pairwise_map.mp (show ((es.map fun c : Ce => c.2.2.1).map (·.name)).Pairwise (· ≠ ·) from nd))
          refine List.pairwise_map.mpr (List.pairwise_map.mpr ((h1.and h2).imp fun {x y} h => ?_))
          rw [← le_ceN h.2]
          have z : dataLe false (fun p : VD => p.2) (V.ref x.1, dCe x) (V.ref y.1, dCe y) = true := h.1
          rw [dataLe_eq] at z
          exact z
        · obtain ⟨c, hc, rfl⟩ := List.mem_map.mp hm
          obtain ⟨j, hj⟩ := List.mem_iff_getElem?.mp (pe.mem_iff.mp hc)
          have lj := (List.getElem?_eq_some_iff.mp hj).1
          have hx : q.ws[j]? = some (q.ws[j]'(by omega)) := List.getElem?_eq_getElem (by omega)
          obtain ⟨c', hc', _, b1, b2⟩ := each j _ (by omega) hx
          obtain rfl : c = c' := Option.some.inj (hj.symm.trans hc')
          exact ⟨b1, b2⟩
end
end Kn


namespace Kn
open PySem PySem.Spec PyProof.Rows L2
abbrev nAk : List Str := ["_law_feed_here", "_law_bound", "_law_pools", "_law_names", "_law_turn_in", "_law_scenes_here", "_law_text_in", "_law_net", "_law_power", "_law_sizes"]
theorem scAk : FnScope nAk ["_law_feed_here", "_law_bound"] (defScope (topS 32)) := ⟨rfl, rfl, rfl, by decide +kernel, rfl, by decide +kernel, by decide +kernel⟩
def poolsA : List (List Str) := [["a", "b", "c", "d"], ["near", "far", "zz", "q"], ["b", "ab", "abc", "zzzzzzzz"], ["s", "t", "u", "v"]]
theorem poolsA_ok : ∀ nm ∈ poolsA, nm.length = 4 ∧ nm.Nodup ∧ (∀ x ∈ nm, nameB (.str x) = true) ∧ ("nobody" : Str) ∉ nm := by decide +kernel
theorem poolA_nm {nm : List Str} (h : nm ∈ poolsA) : NmOk nm := let z := poolsA_ok nm h; ⟨z.1, z.2.1, z.2.2.1⟩
def rotL (nm : List Str) (t : Nat) : List Str := nm.drop t ++ nm.take t
theorem rot_perm (nm : List Str) (t : Nat) : (rotL nm t).Perm nm := by
  refine List.perm_append_comm.trans ?_
  rw [List.take_append_drop]
theorem rot_nm {nm : List Str} (N : NmOk nm) (t : Nat) : NmOk (rotL nm t) := by
  have p := rot_perm nm t
  exact ⟨by rw [p.length_eq]; exact N.len, p.nodup_iff.mpr N.nd, fun x hx => N.good x (p.mem_iff.mp hx)⟩
structure CaseA (g : Pg) (p b : Int) : Prop where
  gw : GW g
  p0 : 0 ≤ p
  p6 : p ≤ 6
  few : ((foundP g p).length : Int) ≤ b
  srt : SrtN g
  no : rowOf g "nobody" = none
  nm : ∃ nm ∈ poolsA, ∀ e ∈ g.es, e.name ∈ nm
theorem found_zero {g : Pg} (G : GW g) : foundP g 0 = [] := by
  have z := (found_good G (p := 0)).all
  match h : foundP g 0 with
  | [] => rfl
  | s :: r =>
    rw [h] at z
    have := z s (List.mem_cons_self ..)
    omega
theorem nameda_in {g : Pg} {ws nm : List Str} {d0 : Nat} (W : WsOk ws) (N : NmOk nm) (h : NamedA g ws nm d0) : ∀ e ∈ g.es, e.name ∈ nm := fun e he => by
  obtain ⟨es1, pm, le, each⟩ := h.rows
  obtain ⟨j, hj, ej⟩ := List.mem_iff_getElem.mp (pm.mem_iff.mp he)
  have hx : ws[j]? = some (ws[j]'(by omega)) := List.getElem?_eq_getElem (by omega)
  obtain ⟨e', he', E⟩ := each j _ hx
  rw [List.getElem?_eq_getElem hj, ej] at he'
  cases he'
  obtain ⟨a0, c, rest, hc, hh, ha, _⟩ := word_is (W.each _ (List.mem_of_getElem? hx))
  obtain ⟨a, c', rest', hc', n, _⟩ := E.ex
  rw [hc] at hc'
  injection hc' with z _
  rw [n, ← z]
  exact (nm_in N (W.le _ ha)).1
theorem cutV_from {xs : List V} {t : Nat} (h : t ≤ xs.length) : cutV xs (some (t : Nat)) none = xs.drop t := by
  show (xs.drop (HT.sIx xs.length 0 (some (t : Nat)))).take (xs.length - HT.sIx xs.length 0 (some (t : Nat))) = _
  rw [sIx_nat h, List.take_of_length_le (by rw [List.length_drop]; exact Nat.le_refl _)]
theorem cutV_to {xs : List V} {t : Nat} (h : t ≤ xs.length) : cutV xs none (some (t : Nat)) = xs.take t := by
  show (xs.drop 0).take (HT.sIx xs.length xs.length (some (t : Nat)) - 0) = _
  rw [sIx_nat h]
  rfl
def spAk (K : PySem.W.Frag) : Sp := fun vs H Q _ => ∃ (f a : Addr) (ns : List Int) (c : Nat) (b : Int), vs = [.ref f, .int b] ∧ Fd f a ns H c ∧ c + 100 < 100000 ∧ 0 ≤ b ∧
  ∀ (t z : Addr) (v : V) (g : Pg) (pw : Int) (ms : List Int) (H' : Hp), Keep f H H' → Fd f a ns H' (c + 70) → H' t = some (.tup [v, .int pw, .ref z]) → PgAt K H' v g → CaseA g pw b → H' z = some (.tup (ms.map V.int)) → ms.length = g.es.length → (∀ m ∈ ms, 1 ≤ m ∧ m ≤ 4) → Q (.ref t) H'
section
variable {P : Program} {w : World} {K : PySem.W.Frag} {mg : Str → Option Value} {base : Heap}
theorem ok_ak {g gD gS gP gC gR gL : Addr} {fd fdD fdS fdP fdC fdR fdL : FuncData} (F : Fun K "_law_asked" "_law_asked" (topS 32) g fd) (D : Def K mg "_law_draw" 23 ["_law_feed_here", "_law_many"] gD fdD) (GD : FnOk P w K mg base CX0 1 gD fdD ["_law_feed_here", "_law_many"] spDraw)
    (Sc : Def K mg "_law_scenes" 29 [] gS fdS) (GS : FnOk P w K mg base CX0 1 gS fdS [] spSc) (Pa : Def K mg "_law_page" 30 ["_law_feed_here"] gP fdP) (GP : FnOk P w K mg base CX0 2 gP fdP ["_law_feed_here"] spPa)
    (Ch : Def K mg "_law_changed" 31 ["_law_feed_here", "_law_text_in"] gC fdC) (GC : FnOk P w K mg base CX0 2 gC fdC ["_law_feed_here", "_law_text_in"] spCh) (Rd : Def K mg "_law_read" 28 ["_law_text_in", "_law_names"] gR fdR) (GR : FnOk P w K mg base CX0 1 gR fdR ["_law_text_in", "_law_names"] (spRd K))
    (Lq : Def K mg "_law_pairs" 27 ["_law_net", "_law_power"] gL fdL) (GL : FnOk P w K mg base CX0 3 gL fdL ["_law_net", "_law_power"] (spLq K)) (ml : mg "len" = none) :
    FnOk P w K mg base CX0 4 g fd ["_law_feed_here", "_law_bound"] (spAk K) := by
  refine F.ok scAk (fun vs H Q E h => ?_) (fun cdv A outer s H vs Q E hr h => ?_)
  · obtain ⟨f, a, ns, c, b, rfl, _⟩ := h
    rfl
  · obtain ⟨f, a, ns, c, b, rfl, fd0, hc, b0, fin⟩ := h
    refine ⟨_, (pss_cons (ps_set (i := 2) scAk.nd rfl (.inl rfl) (pe_lst (pa_cons (pe_lst (pa_cons pe_str (pa_cons pe_str (pa_cons pe_str (pa_cons pe_str pa_nil))))) (pa_cons (pe_lst (pa_cons pe_str (pa_cons pe_str (pa_cons pe_str (pa_cons pe_str pa_nil))))) (pa_cons (pe_lst (pa_cons pe_str (pa_cons pe_str (pa_cons pe_str (pa_cons pe_str pa_nil))))) pa_nil)))))
      (pss_cons (ps_par (i := 3) (j := 4) (by rfl) scAk.nd rfl rfl (by decide) rfl rfl (pa_cons (pe_ix ix_list (pe_op op_cat (pv 2) (pe_lst (pa_cons (pe_lst (pa_cons pe_str (pa_cons pe_str (pa_cons pe_str (pa_cons pe_str pa_nil))))) pa_nil))) (pe_call GD (hr.mono (by decide)) (by rfl) D.m D.F.kp D.b .nil pass0 (pa_cons (pv 0) (pa_cons pe_int pa_nil))) (fun _ _ => rfl)) (pa_cons (pe_call GD (hr.mono (by decide)) (by rfl) D.m D.F.kp D.b .nil pass0 (pa_cons (pv 0) (pa_cons pe_int pa_nil))) pa_nil)) (by rfl))
      (pss_cons (ps_set (i := 3) scAk.nd rfl (.inl rfl) (pe_op op_cat (pe_slice sl_list (pv 3) (po_some (pv 4)) po_none) (pe_slice sl_list (pv 3) po_none (po_some (pv 4)))))
      (pss_cons (ps_par (i := 5) (j := 4) (by rfl) scAk.nd rfl rfl (by decide) rfl rfl (pa_cons (pe_call0 GS (hr.mono (by decide)) (by rfl) Sc.m Sc.F.kp Sc.b .nil pass0) (pa_cons (pe_call GD (hr.mono (by decide)) (by rfl) D.m D.F.kp D.b .nil pass0 (pa_cons (pv 0) (pa_cons pe_int pa_nil))) pa_nil)) (by rfl))
      (pss_cons (ps_set (i := 6) scAk.nd rfl (.inl rfl) (pe_ifExp (pt_cmpR op_lt (pv 4) (pe_callB call_len_seq (by rfl) ml PySem.boot_len (pa_cons (pv 5) pa_nil)) (nomark _)) (pe_ix ix_list (pv 5) (pv 4) (fun _ _ => rfl)) (pe_call GP (hr.mono (by decide)) (by rfl) Pa.m Pa.F.kp Pa.b .nil pass0 (pa_cons (pv 0) pa_nil))))
      (pss_cons (ps_set (i := 6) scAk.nd rfl (.inl rfl) (pe_ifExp (pt_cmpR op_eq (pe_call GD (hr.mono (by decide)) (by rfl) D.m D.F.kp D.b .nil pass0 (pa_cons (pv 0) (pa_cons pe_int pa_nil))) pe_int (nomark _)) (pe_call GC (hr.mono (by decide)) (by rfl) Ch.m Ch.F.kp Ch.b .nil pass0 (pa_cons (pv 0) (pa_cons (pv 6) pa_nil))) (pv 6)))
      (pss_cons (ps_asg (pe_call GR (hr.mono (by decide)) (by rfl) Rd.m Rd.F.kp Rd.b .nil pass0 (pa_cons (pv 6) (pa_cons (pv 3) pa_nil))) (pg_tup (by rfl) (pgs_cons (pg_name (i := 7) scAk.nd rfl (.inl rfl)) (pgs_cons (pg_name (i := 8) scAk.nd rfl (.inl rfl)) (pgs_cons (pg_name (i := 9) scAk.nd rfl (.inl rfl)) pgs_nil)))))
      (pss_cons (ps_while PassesOwn.never (pt_cmpR op_gt (pe_callB call_len_seq (by rfl) ml PySem.boot_len (pa_cons (pe_call GL (hr.mono (by decide)) (by rfl) Lq.m Lq.F.kp Lq.b .nil pass0 (pa_cons (pv 7) (pa_cons (pv 8) pa_nil))) pa_nil)) (pv 1) (nomark _)) (pss_one (ps_set (i := 8) scAk.nd rfl (.inl rfl) (pe_op op_sub (pv 8) pe_int))))
      (pss_one (ps_ret (pe_tup (pa_cons (pv 7) (pa_cons (pv 8) (pa_cons (pv 9) pa_nil)))))))))))))), ?_⟩
    have z4 : 4 ≤ sizeLine := by decide
    refine asg_seq ⟨z4, fun l1 n1 => ⟨z4, fun l2 n2 => ⟨z4, fun l3 n3 => ⟨(show 3 ≤ sizeLine by decide), fun lp np => ?_⟩⟩⟩⟩
    dsimp only [gName, List.set]
    have s1 := same_new (o := .lst [V.str "a", .str "b", .str "c", .str "d"]) n1
    have e1 : (upd H l1 (.lst [V.str "a", .str "b", .str "c", .str "d"])) l1 = some (.lst ((["a", "b", "c", "d"] : List Str).map V.str)) := upd_same
    generalize upd H l1 (.lst [V.str "a", .str "b", .str "c", .str "d"]) = J1 at s1 e1 n2 n3 np ⊢
    have s2 := same_new (o := .lst [V.str "near", .str "far", .str "zz", .str "q"]) n2
    have e2 : (upd J1 l2 (.lst [V.str "near", .str "far", .str "zz", .str "q"])) l2 = some (.lst ((["near", "far", "zz", "q"] : List Str).map V.str)) := upd_same
    have e12 := s2 _ _ e1
    have s12 := s1.trans s2
    generalize upd J1 l2 (.lst [V.str "near", .str "far", .str "zz", .str "q"]) = J2 at s2 e2 e12 s12 n3 np ⊢
    have s3 := same_new (o := .lst [V.str "b", .str "ab", .str "abc", .str "zzzzzzzz"]) n3
    have e3 : (upd J2 l3 (.lst [V.str "b", .str "ab", .str "abc", .str "zzzzzzzz"])) l3 = some (.lst ((["b", "ab", "abc", "zzzzzzzz"] : List Str).map V.str)) := upd_same
    have e13 := s3 _ _ e12
    have e23 := s3 _ _ e2
    have s13 := s12.trans s3
    generalize upd J2 l3 (.lst [V.str "b", .str "ab", .str "abc", .str "zzzzzzzz"]) = J3 at s3 e3 e13 e23 s13 np ⊢
    have s4 := same_new (o := .lst [.ref l1, .ref l2, .ref l3]) np
    have ep : (upd J3 lp (.lst [.ref l1, .ref l2, .ref l3])) lp = some (.lst [.ref l1, .ref l2, .ref l3]) := upd_same
    have e14 := s4 _ _ e13
    have e24 := s4 _ _ e23
    have e34 := s4 _ _ e3
    have s14 := s13.trans s4
    generalize upd J3 lp (.lst [.ref l1, .ref l2, .ref l3]) = J4 at s4 ep e14 e24 e34 s14 ⊢
    clear s1 s2 s3 s4 s12 s13 e1 e2 e3 e12 e13 e23 n1 n2 n3 np
    have fd4 := fd0.same s14
    refine ⟨.ref lp, rfl, z4, fun l5 n5 => ⟨(show 1 ≤ sizeLine by decide), fun lq nq => ?_⟩⟩
    have s5 := same_new (o := .lst [V.str "s", .str "t", .str "u", .str "v"]) n5
    have e5 : (upd J4 l5 (.lst [V.str "s", .str "t", .str "u", .str "v"])) l5 = some (.lst ((["s", "t", "u", "v"] : List Str).map V.str)) := upd_same
    have ep5 := s5 _ _ ep
    have e15 := s5 _ _ e14
    have e25 := s5 _ _ e24
    have e35 := s5 _ _ e34
    have fd5 := fd4.same s5
    have s15 := s14.trans s5
    generalize upd J4 l5 (.lst [V.str "s", .str "t", .str "u", .str "v"]) = J5 at s5 e5 ep5 e15 e25 e35 fd5 s15 nq ⊢
    have s6 := same_new (o := .lst [.ref l5]) nq
    refine ⟨lp, lq, _, _, rfl, rfl, s6 _ _ ep5, upd_same, z4, fun lr nr => ?_⟩
    have s7 := s6.trans (same_new (o := .lst ([.ref l1, .ref l2, .ref l3] ++ [.ref l5])) nr)
    have er : (upd (upd J5 lq (.lst [.ref l5])) lr (.lst ([.ref l1, .ref l2, .ref l3] ++ [.ref l5]))) lr = some (.lst [.ref l1, .ref l2, .ref l3, .ref l5]) := upd_same
    have fd7 := fd5.same s7
    have s17 := s15.trans s7
    have e17 := s7 _ _ e15
    have e27 := s7 _ _ e25
    have e37 := s7 _ _ e35
    have e57 := s7 _ _ e5
    generalize upd (upd J5 lq (.lst [.ref l5])) lr (.lst ([.ref l1, .ref l2, .ref l3] ++ [.ref l5])) = J7 at s7 er fd7 s17 e17 e27 e37 e57 ⊢
    clear s5 s6 s7 e5 ep5 e15 e25 e35 fd5 s15 nq nr ep e14 e24 e34 fd4 s14
    refine ⟨.ref f, rfl, f, a, ns, c, 4, rfl, by omega, by omega, fd7, by omega, fun r0 H1 r00 r01 k1 fd8 => ?_⟩
    have lf := fun (l : Addr) (xs : List V) (h : J7 l = some (.lst xs)) => k1 _ _ (fd_ne fd7 h) h
    obtain ⟨ln, nm, hat, eln, hnm⟩ : ∃ (ln : Addr) (nm : List Str), atI [V.ref l1, .ref l2, .ref l3, .ref l5] r0 = some (.ref ln) ∧ H1 ln = some (.lst (nm.map V.str)) ∧ nm ∈ poolsA := by
      have : r0 = 0 ∨ r0 = 1 ∨ r0 = 2 ∨ r0 = 3 := by omega
      rcases this with rfl | rfl | rfl | rfl
      · exact ⟨l1, _, rfl, lf _ _ e17, by unfold poolsA; simp⟩
      · exact ⟨l2, _, rfl, lf _ _ e27, by unfold poolsA; simp⟩
      · exact ⟨l3, _, rfl, lf _ _ e37, by unfold poolsA; simp⟩
      · exact ⟨l5, _, rfl, lf _ _ e57, by unfold poolsA; simp⟩
    have N := poolA_nm hnm
    have k17 : Keep f H H1 := (keep_same s17).trans k1
    have eR1 := lf _ _ er
    clear lf e17 e27 e37 e57 k1 s17 fd7
    refine ⟨lr, _, r0, .ref ln, rfl, rfl, .inl (.inl eR1), hat, .ref f, rfl, f, a, ns, c + 1, 4, rfl, by omega, by omega, fd8, by omega, fun r2 H2 r20 r21 k2 fd9 => ⟨_, _, rfl, ?_⟩⟩
    obtain ⟨t, rfl⟩ := Int.eq_ofNat_of_zero_le r20
    have lnm := N.len
    have ln2 := k2 _ _ (fd_ne fd8 eln) eln
    have lt : t ≤ (nm.map V.str).length := by rw [List.length_map]; omega
    dsimp only [List.set]
    refine asg_seq ⟨.ref ln, rfl, .int (t : Nat), rfl, (t : Nat), rfl, ln, _, rfl, .inl (.inl ln2), fun b1 nb1 => ?_⟩
    have lnmV : (nm.map V.str).length = 4 := by rw [List.length_map]; exact lnm
    rw [cutV_from lt]
    obtain ⟨b11, b12⟩ := fd9.free nb1
    have sb1 := same_new (o := .lst ((nm.map V.str).drop t)) nb1
    refine ⟨.ref ln, rfl, .int (t : Nat), rfl, (t : Nat), rfl, ln, _, rfl, .inl (.inl (sb1 _ _ ln2)), fun b2 nb2 => ?_⟩
    rw [cutV_to lt]
    have sb2 := same_new (o := .lst ((nm.map V.str).take t)) nb2
    refine ⟨b1, b2, _, _, rfl, rfl, sb2 _ _ upd_same, upd_same, ?_, fun b3 nb3 => ?_⟩
    · rw [List.length_drop, List.length_take, lnmV]
      exact Nat.le_trans (show 4 - t + min t 4 ≤ 1000 by omega) (by decide)
    have sb3 := (sb1.trans sb2).trans (same_new (o := .lst ((nm.map V.str).drop t ++ (nm.map V.str).take t)) nb3)
    have e3 : (upd (upd (upd H2 b1 (.lst ((nm.map V.str).drop t))) b2 (.lst ((nm.map V.str).take t))) b3 (.lst ((nm.map V.str).drop t ++ (nm.map V.str).take t))) b3 = some (.lst ((rotL nm t).map V.str)) := by
      rw [upd_same]
      unfold rotL
      rw [List.map_append, List.map_drop, List.map_take]
    have fd10 := fd9.same sb3
    have k20 := (k17.trans k2).trans (keep_same sb3)
    generalize upd (upd (upd H2 b1 (.lst ((nm.map V.str).drop t))) b2 (.lst ((nm.map V.str).take t))) b3 (.lst ((nm.map V.str).drop t ++ (nm.map V.str).take t)) = H3 at sb3 e3 fd10 k20 ⊢
    dsimp only [gName, List.set]
    clear sb1 sb2 sb3 nb1 nb2 nb3 ln2 k17 k2 fd9 eln b11 b12 fd8 eR1
    refine ⟨rfl, fun ls G1 sA eLs => ⟨.ref f, rfl, f, a, ns, c + 2, 30, rfl, by omega, by omega, fd10.same sA, by omega, fun r3 H4 r30 r31 k3 fd11 => ⟨_, _, rfl, ?_⟩⟩⟩
    have e4 := k3 _ _ (fd_ne (fd10.same sA) (sA _ _ e3)) (sA _ _ e3)
    have eLs4 := k3 _ _ (fd_ne (fd10.same sA) eLs) eLs
    have k30 := (k20.trans (keep_same sA)).trans k3
    dsimp only [List.set]
    clear k3 k20 sA eLs e3 fd10
    have lsc : (scenesT.map V.str).length = 22 := by decide
    refine seq_mid (fun σ G => ∃ (q : Page) (cc : Nat), σ = [some (.ref f), some (.int b), some (.ref lp), some (.ref b3), some (.int r3), some (.ref ls), some (.str q.tx), none, none, none] ∧ PageOk q ∧ cc ≤ c + 53 ∧ Keep f H G ∧ Fd f a ns G cc ∧ G b3 = some (.lst ((rotL nm t).map V.str))) ?_ ?_
    · rintro σ G ⟨q, cc, rfl, ok, lcc, kG, fdG, e5⟩
      refine seq_mid (fun σ G => ∃ (q : Page) (cc : Nat), σ = [some (.ref f), some (.int b), some (.ref lp), some (.ref b3), some (.int r3), some (.ref ls), some (.str q.tx), none, none, none] ∧ PageOk q ∧ cc ≤ c + 60 ∧ Keep f H G ∧ Fd f a ns G cc ∧ G b3 = some (.lst ((rotL nm t).map V.str))) ?_ ?_
      · rintro σ G ⟨q, cc, rfl, ok, lcc, kG, fdG, e6⟩
        refine asg_seq ⟨.str q.tx, rfl, .ref b3, rfl, q, b3, rotL nm t, rfl, .inl (.inl e6), rot_nm N t, ok, fun tt z v g ms H7 sm et pg nmd srt ez lms lim => ?_⟩
        refine ⟨tt, _, rfl, .inl (.inl et), rfl, _, _, rfl, _, _, rfl, _, _, rfl, rfl, ?_⟩
        dsimp only [gName, List.set]
        have gw := nameda_good ok.W (rot_nm N t) nmd
        have inn := nameda_in ok.W (rot_nm N t) nmd
        have ipool : ∀ e ∈ g.es, e.name ∈ nm := fun e he => (rot_perm nm t).mem_iff.mp (inn e he)
        have nob : rowOf g "nobody" = none := row_none fun h => by
          obtain ⟨e, he, ee⟩ := List.mem_map.mp h
          exact (poolsA_ok nm hnm).2.2.2 (ee ▸ ipool e he)
        have k7 := kG.trans (keep_same sm)
        have fd7 := fdG.same sm
        have pw6 := ok.pw
        refine ⟨fun m σ G => ∃ (p : Int), σ = [some (.ref f), some (.int b), some (.ref lp), some (.ref b3), some (.int r3), some (.ref ls), some (.str q.tx), some v, some (.int p), some (.ref z)] ∧ m = p.toNat ∧ 0 ≤ p ∧ p ≤ 6 ∧ Same H7 G, ⟨_, (q.pw : Nat), rfl, rfl, by omega, by omega, Same.refl _⟩, ?_⟩
        rintro m σ G8 ⟨p, rfl, rfl, p0, p6, s8⟩
        refine ⟨v, rfl, .int p, rfl, v, g, p, rfl, pg.same s8, gw, p0, p6, fun lq ys H9 s9 nlq elq hys => ⟨lq, ys, rfl, .inl (.inl (.inl elq)), .int b, rfl, (ys.length : Nat), b, rfl, rfl, _, rfl, ?_⟩⟩
        have ly := hys.len
        have s89 := s8.trans s9
        by_cases big : b < (ys.length : Int)
        · rw [decide_eq_true big]
          have p1 : 1 ≤ p := by
            by_cases e : p = 0
            · subst e
              rw [found_zero gw] at ly
              rw [ly] at big
              simp at big
              omega
            · omega
          refine iteT ⟨fun σ' H' => ∃ m', m' < p.toNat ∧ ∃ (p : Int), σ' = [some (.ref f), some (.int b), some (.ref lp), some (.ref b3), some (.int r3), some (.ref ls), some (.str q.tx), some v, some (.int p), some (.ref z)] ∧ m' = p.toNat ∧ 0 ≤ p ∧ p ≤ 6 ∧ Same H7 H', fun σ' H' z => z, ?_⟩
          refine ⟨.int p, rfl, p, 1, rfl, rfl, ?_⟩
          exact ⟨(p - 1).toNat, by omega, p - 1, rfl, rfl, by omega, by omega, s89⟩
        · rw [decide_eq_false big]
          refine iteF ⟨v, rfl, .int p, rfl, .ref z, rfl, (show 3 ≤ sizeLine by decide), fun tr ntr => ?_⟩
          have st := s89.trans (same_new (o := .tup [v, .int p, .ref z]) ntr)
          refine fin tr z v g p ms _ (k7.trans (keep_same st)) ((fd7.same st).more (by omega)) upd_same (pg.same st) ⟨gw, p0, p6, by rw [← ly]; omega, srt, nob, nm, hnm, ipool⟩ (st _ _ ez) lms lim
      · intro R k
        refine ⟨.ref f, rfl, f, a, ns, cc, 3, rfl, by omega, by omega, fdG, by omega, fun r5 H5 r50 r51 k5 fd5 => ⟨rfl, _, rfl, ?_⟩⟩
        have e6 := k5 _ _ (fd_ne fdG e5) e5
        cases zz : decide (V.int r5 = V.int 0)
        · exact iteF ⟨.str q.tx, rfl, k _ _ ⟨q, cc + 1, rfl, ok, by omega, kG.trans k5, fd5, e6⟩⟩
        · refine iteT ⟨.ref f, rfl, .str q.tx, rfl, f, a, ns, cc + 1, q, rfl, ok, fd5, by omega, fun q' H6 ok' k6 fd6 => ?_⟩
          exact k _ _ ⟨q', cc + 1 + 4, rfl, ok', by omega, (kG.trans k5).trans k6, fd6, k6 _ _ (fd_ne fd5 e6) e6⟩
    · intro R k
      refine ⟨.int r3, rfl, .ref ls, rfl, ls, _, rfl, .inl (.inl (.inl eLs4)), r3, _, rfl, rfl, _, rfl, ?_⟩
      rw [lsc]
      obtain ⟨j, rfl⟩ := Int.eq_ofNat_of_zero_le r30
      by_cases lj : j < 22
      · rw [decide_eq_true (show ((j : Nat) : Int) < ((22 : Nat) : Int) by omega)]
        have l22 : scenesT.length = 22 := by decide
        have hx : scenesT[j]? = some (scenesT[j]'(by omega)) := List.getElem?_eq_getElem (by omega)
        generalize scenesT[j]'(by omega) = x at hx
        obtain ⟨q, ok, rfl⟩ := scenes_page x (List.mem_of_getElem? hx)
        refine iteT ⟨.ref ls, rfl, .int (j : Nat), rfl, ls, _, (j : Nat), .str q.tx, rfl, rfl, .inl (.inl eLs4), atI_nat (by rw [List.getElem?_map, hx]; rfl), ?_⟩
        exact k _ _ ⟨q, c + 3, rfl, ok, by omega, k30, fd11, e4⟩
      · rw [decide_eq_false (show ¬ ((j : Nat) : Int) < ((22 : Nat) : Int) by omega)]
        refine iteF ⟨.ref f, rfl, f, a, ns, c + 3, rfl, fd11, by omega, fun q H5 ok k5 fd5 => ?_⟩
        exact k _ _ ⟨q, c + 3 + 50, rfl, ok, by omega, k30.trans k5, fd5, k5 _ _ (fd_ne fd11 e4) e4⟩
end
end Kn


namespace Kn
open PySem PySem.Spec PyProof.Rows L2
/-! ### the best marks -/
/-- what letters leave somewhere -/
inductive Rch (g : Pg) (p : Int) : Str × Int → Prop
  | first {t : Str × Int} : canB g g.asks p = true → t ∈ lvOf g (g.asks, p) → Rch g p t
  | step {s t : Str × Int} : Rch g p s → canB g s.1 s.2 = true → t ∈ lvOf g s → Rch g p t
/-- a pair from which letters come -/
def Src (g : Pg) (p : Int) (s : Str × Int) : Prop := s = (g.asks, p) ∨ Rch g p s
theorem Src.left {g : Pg} {p : Int} {s t : Str × Int} (h : Src g p s) (c : canB g s.1 s.2 = true) (ht : t ∈ lvOf g s) : Rch g p t := by
  rcases h with rfl | h
  · exact .first c ht
  · exact .step h c ht
theorem left_is {g : Pg} {s t : Str × Int} (h : t ∈ lvOf g s) : ∃ e, rowOf g s.1 = some e ∧ t.1 ∈ e.row ∧ t.2 = s.2 - e.fee := by
  unfold lvOf at h
  cases z : rowOf g s.1 with
  | none => rw [z] at h; cases h
  | some e =>
    rw [z] at h
    obtain ⟨k, hk, rfl⟩ := List.mem_map.mp h
    exact ⟨e, rfl, hk, rfl⟩
theorem left_mk {g : Pg} {s : Str × Int} {e : Ent} {k : Str} (he : rowOf g s.1 = some e) (hk : k ∈ e.row) : (k, s.2 - e.fee) ∈ lvOf g s := by
  unfold lvOf
  rw [he]
  exact List.mem_map.mpr ⟨k, hk, rfl⟩
theorem Rch.pos {g : Pg} {p : Int} {t : Str × Int} (h : Rch g p t) : 0 ≤ t.2 := by
  have key : ∀ s : Str × Int, canB g s.1 s.2 = true → t ∈ lvOf g s → 0 ≤ t.2 := fun s c ht => by
    obtain ⟨e, he, _, h2⟩ := left_is ht
    obtain ⟨e', he', _, h3⟩ := can_is c
    rw [he] at he'
    cases he'
    omega
  cases h with
  | first c ht => exact key _ c ht
  | step _ c ht => exact key _ c ht
theorem Rch.lt {g : Pg} (G : GW g) {p : Int} {t : Str × Int} (h : Rch g p t) : t.2 < p ∧ (rowOf g t.1).isSome = true := by
  induction h with
  | first c ht => exact ⟨(lv_known G ht).2, (lv_known G ht).1⟩
  | step _ _ ht ih => exact ⟨Int.lt_trans (lv_known G ht).2 ih.1, (lv_known G ht).1⟩
/-- the best marks, one for each name -/
structure BestOf (g : Pg) (p : Int) (b : Str → Int) : Prop where
  got : ∀ n ∈ g.es.map (·.name), b n = -1 ∨ Rch g p (n, b n)
  all : ∀ t, Rch g p t → t.2 ≤ b t.1
theorem best_one {g : Pg} {p : Int} {b c : Str → Int} (hb : BestOf g p b) (hc : BestOf g p c) {n : Str} (hn : n ∈ g.es.map (·.name)) : b n = c n := by
  rcases hb.got n hn with h | h <;> rcases hc.got n hn with k | k
  · rw [h, k]
  · have := hb.all _ k
    have := k.pos
    dsimp only at *
    omega
  · have := hc.all _ h
    have := h.pos
    dsimp only at *
    omega
  · have := hb.all _ k
    have := hc.all _ h
    dsimp only at *
    omega
def upN (b : Str → Int) (n : Str) (m : Int) : Str → Int := fun k => if k = n then m else b k
theorem upN_at {b : Str → Int} {n : Str} {m : Int} : upN b n m n = m := if_pos rfl
theorem upN_ne {b : Str → Int} {n k : Str} {m : Int} (h : k ≠ n) : upN b n m k = b k := if_neg h
/-- how much the marks can still grow -/
def wB (g : Pg) (b : Str → Int) : Nat := ((g.es.map (·.name)).map fun n => (7 - b n).toNat).sum
theorem sum_up : ∀ {ns : List Str} {b : Str → Int} {n : Str} {m : Int}, ns.Nodup → n ∈ ns → b n < m → m ≤ 7 → (ns.map fun k => (7 - upN b n m k).toNat).sum + 1 ≤ (ns.map fun k => (7 - b k).toNat).sum
  | k :: r, b, n, m, nd, hn, lt, le => by
    rw [List.map_cons, List.sum_cons, List.map_cons, List.sum_cons]
    by_cases e : k = n
    · subst e
      have same : (r.map fun j => (7 - upN b k m j).toNat) = r.map fun j => (7 - b j).toNat := List.map_congr_left fun j hj => by
        rw [upN_ne fun (e : j = k) => (List.nodup_cons.mp nd).1 (e ▸ hj)]
      rw [same, upN_at]
      omega
    · rw [upN_ne e]
      have := sum_up (ns := r) (List.nodup_cons.mp nd).2 ((List.mem_cons.mp hn).resolve_left fun z => e z.symm) lt le
      omega
theorem wB_up {g : Pg} (G : GW g) {b : Str → Int} {n : Str} {m : Int} (hn : n ∈ g.es.map (·.name)) (lt : b n < m) (le : m ≤ 7) : wB g (upN b n m) + 1 ≤ wB g b := sum_up G.nd hn lt le
theorem wB_few {g : Pg} (G : GW g) {b : Str → Int} (h : ∀ n ∈ g.es.map (·.name), -1 ≤ b n) : wB g b ≤ 32 := by
  have key : ∀ ns : List Str, (∀ n ∈ ns, -1 ≤ b n) → (ns.map fun n => (7 - b n).toNat).sum ≤ 8 * ns.length := by
    intro ns
    induction ns with
    | nil => exact fun _ => Nat.zero_le _
    | cons n r ih =>
      intro h
      have := ih fun k hk => h k (List.mem_cons_of_mem _ hk)
      have := h n (List.mem_cons_self ..)
      rw [List.map_cons, List.sum_cons, List.length_cons]
      omega
  have z := key _ h
  rw [List.length_map] at z
  have := G.few
  unfold wB
  omega
/-- what a pair leaves is known -/
def DoneB (g : Pg) (b : Str → Int) (s : Str × Int) : Prop := ∀ t ∈ lvOf g s, t.2 ≤ b t.1
/-- a search under way: marks so far, the pairs still to come -/
structure Half (g : Pg) (p : Int) (b : Str → Int) (more : Str × Int → Prop) : Prop where
  got : ∀ n ∈ g.es.map (·.name), b n = -1 ∨ Rch g p (n, b n)
  src : ∀ s, more s → Src g p s
  cl : ∀ s, canB g s.1 s.2 = true → (s = (g.asks, p) ∨ (Rch g p s ∧ s.2 = b s.1)) → DoneB g b s ∨ more s
theorem Half.low {g : Pg} {p : Int} {b : Str → Int} {more : Str × Int → Prop} (h : Half g p b more) : ∀ n ∈ g.es.map (·.name), -1 ≤ b n := fun n hn => by
  rcases h.got n hn with k | k
  · omega
  · have := k.pos
    dsimp only at this
    omega
theorem Half.first {g : Pg} (G : GW g) {p : Int} {more : Str × Int → Prop} (h1 : canB g g.asks p = true → more (g.asks, p)) (h2 : ∀ s, more s → s = (g.asks, p)) : Half g p (fun _ => -1) more := by
  refine ⟨fun n _ => .inl rfl, fun s h => .inl (h2 s h), fun s c h => ?_⟩
  rcases h with rfl | ⟨h, e⟩
  · exact .inr (h1 c)
  · have := h.pos
    omega
/-- all is done -/
theorem Half.best {g : Pg} {p : Int} {b : Str → Int} {more : Str × Int → Prop} (G : GW g) (h : Half g p b more) (no : ∀ s, ¬ more s) : BestOf g p b := by
  refine ⟨h.got, fun t ht => ?_⟩
  induction ht with
  | first c ht => exact (h.cl _ c (.inl rfl)).resolve_right (no _) _ ht
  | @step s t hs c ht ih =>
    obtain ⟨e, he, hk, h2⟩ := left_is ht
    obtain ⟨e', he', hh, hf⟩ := can_is c
    rw [he] at he'
    cases he'
    have hn : s.1 ∈ g.es.map (·.name) := mem_rows.mpr (hs.lt G).2
    have sp := hs.pos
    have gs := (h.got s.1 hn).resolve_left (by omega)
    have c' : canB g s.1 (b s.1) = true := by
      unfold canB
      rw [he]
      show (!e.has && decide (e.fee ≤ b s.1)) = true
      rw [hh, decide_eq_true (by omega)]
      rfl
    have d := (h.cl (s.1, b s.1) c' (.inr ⟨gs, rfl⟩)).resolve_right (no _)
    have z := d _ (left_mk (s := (s.1, b s.1)) he hk)
    dsimp only at z
    omega
/-- a mark grows -/
theorem Half.up {g : Pg} (G : GW g) {p : Int} {b : Str → Int} {more : Str × Int → Prop} (h : Half g p b more) {t : Str × Int} (ht : Rch g p t) (lt : b t.1 < t.2) {more' : Str × Int → Prop} (h1 : ∀ s, more s → more' s) (h2 : ∀ s, more' s → more s ∨ s = t) (h3 : canB g t.1 t.2 = true → more' t) : Half g p (upN b t.1 t.2) more' := by
  have mono : ∀ n, b n ≤ upN b t.1 t.2 n := fun n => by
    by_cases e : n = t.1
    · rw [e, upN_at]
      omega
    · rw [upN_ne e]
      exact Int.le_refl _
  refine ⟨fun n hn => ?_, fun s hs => ?_, fun s c hs => ?_⟩
  · by_cases e : n = t.1
    · rw [e, upN_at]
      exact .inr ht
    · rw [upN_ne e]
      exact h.got n hn
  · rcases h2 s hs with k | rfl
    · exact h.src s k
    · exact .inr ht
  · have old : (s = (g.asks, p) ∨ (Rch g p s ∧ s.2 = b s.1)) → DoneB g (upN b t.1 t.2) s ∨ more' s := fun k => by
      rcases h.cl s c k with d | d
      · exact .inl fun u hu => Int.le_trans (d u hu) (mono _)
      · exact .inr (h1 s d)
    rcases hs with k | ⟨k, e⟩
    · exact old (.inl k)
    · by_cases z : s.1 = t.1
      · rw [z, upN_at] at e
        have : s = t := Prod.ext z e
        subst this
        exact .inr (h3 c)
      · rw [upN_ne z] at e
        exact old (.inr ⟨k, e⟩)
/-- some pairs are done -/
theorem Half.drop {g : Pg} {p : Int} {b : Str → Int} {more more' : Str × Int → Prop} (h : Half g p b more) (h1 : ∀ s, more' s → more s) (h2 : ∀ s, more s → canB g s.1 s.2 = true → DoneB g b s ∨ more' s) : Half g p b more' :=
  ⟨h.got, fun s hs => h.src s (h1 s hs), fun s c hs => (h.cl s c hs).elim .inl fun k => h2 s k c⟩
end Kn


namespace Kn
open PySem PySem.Spec PyProof.Rows L2
/-! ### f(x = e): one parameter, given by its name -/
section
variable {X : Cx} {k : Nat} {f : Addr} {fd : FuncData} {y x : Str} {sp : Sp} {p pos kpos : Pos} {e : Expr} {te : TE}
def tKw (sp : Sp) (te : TE) : TE := fun σ H Q => te σ H fun v G => sp [v] G Q E0
theorem pe_kw1 (F : FnOk X.prog X.w X.K X.mg X.base CX0 k f fd [y] sp) (hr : Room k X.A) (hg : Gl X x) (hm : X.mg x = some (.ref f)) (hk : PySem.W.keepIn X.K (.ref f) = true)
    (hb : ∀ (s : Shared) (u : Value), BindsTo s fd ⟨[], [(y, u)]⟩ [(y, u)]) (he : PE X e te) (hdb : (x == ("__debug__" : Str)) = false := by decide)
    (h1 : (backToKw pos (keywordEach [⟨some y, e, kpos⟩] X.env)).all (·.1.isSome) = true := by rfl) (h2 : (backToKw pos (keywordEach [⟨some y, e, kpos⟩] X.env)).filterMap (·.1) = [y] := by rfl)
    (h3 : ((backTo pos (starEach [] X.env)).any (·.1) || (backToKw pos (keywordEach [⟨some y, e, kpos⟩] X.env)).any (·.1.isNone)) = false := by rfl) :
    PE X (.Call (.Name x p) [] [⟨some y, e, kpos⟩] pos) (tKw sp te) := by
  have hkw : PK X [⟨some y, e, kpos⟩] (tCons te tNil) := pk_cons he pk_nil
  refine ⟨fun pins s σ H Q I told => wpAny_Call_Name_kw (ld_glob I hg hm ?_ hdb)⟩
  refine PySem.W.callWith_KW0 (h₀ := X.base) I.ok.mod.kin hk h1 (thn (hkw.run pos pins s σ H (fun vs G => sp vs G Q E0) I told) ?_) h3
  · rintro us s1 ⟨vs, H1, I1, rv, q⟩
    refine ⟨I1.kIn, ?_⟩
    rw [h2]
    have n1 := F.len _ _ _ _ q
    obtain ⟨v, rfl⟩ : ∃ v, vs = [v] := by
      match vs, n1 with
      | [v], _ => exact ⟨v, rfl⟩
    obtain ⟨u, rfl, ru⟩ := vals1 rv
    refine wpAny_call (codeAny_mono (F.run X.A X.stack s1 H1 ⟨[], [(y, u)]⟩ [u] [v] Q E0 hr I1.env0 (hb s1 u) rv q) ?_)
    intro r s2 out
    cases r with
    | error _ => exact False.elim out
    | ok fl =>
      cases fl with
      | ret u => exact I1.after out
      | next => exact False.elim out
      | brk => exact False.elim out
      | cont => exact False.elim out
end
/-! ### f(y1 = e1, y2 = e2), the other way about than the def names them; nothing is raised -/
section
theorem passF {X : Cx} : Passes (L2.CX X.prog X.w) X E0 := by
  rintro pins σ H s e s' I ⟨_, _, _, _, _, _, _, _, _, _, _, _, z⟩
  exact z.elim
variable {X : Cx} {k : Nat} {f : Addr} {fd : FuncData} {y1 y2 x : Str} {sp : Sp} {p pos k1 k2 : Pos} {e1 e2 : Expr} {t1 t2 : TE}
def tKw2 (sp : Sp) (t1 t2 : TE) : TE := fun σ H Q => t1 σ H fun u G => t2 σ G fun v G' => sp [v, u] G' Q E0
theorem pe_kw2 (F : FnOk X.prog X.w X.K X.mg X.base (L2.CX X.prog X.w) k f fd [y2, y1] sp) (hr : Room k X.A) (hg : Gl X x) (hm : X.mg x = some (.ref f)) (hk : PySem.W.keepIn X.K (.ref f) = true)
    (hb : ∀ (s : Shared) (u v : Value), BindsTo s fd ⟨[], [(y1, u), (y2, v)]⟩ [(y2, v), (y1, u)]) (he1 : PE X e1 t1) (he2 : PE X e2 t2) (hdb : (x == ("__debug__" : Str)) = false := by decide)
    (h1 : (backToKw pos (keywordEach [⟨some y1, e1, k1⟩, ⟨some y2, e2, k2⟩] X.env)).all (·.1.isSome) = true := by rfl) (h2 : (backToKw pos (keywordEach [⟨some y1, e1, k1⟩, ⟨some y2, e2, k2⟩] X.env)).filterMap (·.1) = [y1, y2] := by rfl)
    (h3 : ((backTo pos (starEach [] X.env)).any (·.1) || (backToKw pos (keywordEach [⟨some y1, e1, k1⟩, ⟨some y2, e2, k2⟩] X.env)).any (·.1.isNone)) = false := by rfl) :
    PE X (.Call (.Name x p) [] [⟨some y1, e1, k1⟩, ⟨some y2, e2, k2⟩] pos) (tKw2 sp t1 t2) := by
  have hkw : PK X [⟨some y1, e1, k1⟩, ⟨some y2, e2, k2⟩] (tCons t1 (tCons t2 tNil)) := pk_cons he1 (pk_cons he2 pk_nil)
  refine ⟨fun pins s σ H Q I told => wpAny_Call_Name_kw (ld_glob I hg hm ?_ hdb)⟩
  refine PySem.W.callWith_KW0 (h₀ := X.base) I.ok.mod.kin hk h1 (thn (hkw.run pos pins s σ H (fun vs G => ∃ u v, vs = [u, v] ∧ sp [v, u] G Q E0) I ?_) ?_) h3
  · exact (told : t1 σ H fun u G => t2 σ G fun v G' => sp [v, u] G' Q E0) |> fun z => by
      have mono : (tCons t1 (tCons t2 tNil)) σ H (fun vs G => ∃ u v, vs = [u, v] ∧ sp [v, u] G Q E0) = (t1 σ H fun u G => t2 σ G fun v G' => ∃ u' v', [u, v] = [u', v'] ∧ sp [v', u'] G' Q E0) := rfl
      rw [mono]
      have e : (fun (u : V) (G : Hp) => t2 σ G fun v G' => ∃ u' v', [u, v] = [u', v'] ∧ sp [v', u'] G' Q E0) = fun u G => t2 σ G fun v G' => sp [v, u] G' Q E0 := by
        funext u G
        have e2 : (fun (v : V) (G' : Hp) => ∃ u' v', [u, v] = [u', v'] ∧ sp [v', u'] G' Q E0) = fun v G' => sp [v, u] G' Q E0 := by
          funext v G'
          exact propext ⟨fun ⟨u', v', h, q⟩ => by cases h; exact q, fun q => ⟨u, v, rfl, q⟩⟩
        rw [e2]
      rw [e]
      exact z
  · rintro us s1 ⟨vs, H1, I1, rv, u0, v0, rfl, q⟩
    refine ⟨I1.kIn, ?_⟩
    rw [h2]
    cases rv with
    | cons r1 rr =>
      cases rr with
      | cons r2 rr =>
        cases rr
        refine wpAny_call (codeAny_mono (F.run X.A X.stack s1 H1 ⟨[], [(y1, _), (y2, _)]⟩ [_, _] [v0, u0] Q E0 hr I1.env0 (hb s1 _ _) (.cons r2 (.cons r1 .nil)) q) ?_)
        intro r s2 out
        cases r with
        | error e => exact passF pins σ H1 s1 e s2 I1 out
        | ok fl =>
          cases fl with
          | ret u => exact I1.after out
          | next => exact False.elim out
          | brk => exact False.elim out
          | cont => exact False.elim out
end
end Kn


namespace Kn
open PySem PySem.Spec PyProof.Rows L2
abbrev nAs : List Str := ["things"]
abbrev nMp : List Str := ["web", "marks", "plan"]
abbrev nKi : List Str := ["plan", "name", "_"]
abbrev nNi : List Str := ["web", "plan", "kind", "_"]
abbrev nQi : List Str := ["web", "plan", "kind", "mark"]
abbrev nUi : List Str := ["web", "plan", "kind", "pair"]
abbrev nKo : List Str := ["web", "marks", "plan"]
abbrev nNk : List Str := ["web", "marks", "plan"]
abbrev nQk : List Str := ["web", "marks", "plan"]
abbrev nUo : List Str := ["web", "marks", "plan"]
/-! ### the parts of a plan -/
def kindsL (ps : List (Str × Int)) : List Str := ascS (ps.map (·.1))
def nearL (g : Pg) (ps : List (Str × Int)) : List Str := ascS ((lv g ps).map (·.1))
def quietL (g : Pg) (ps : List (Str × Int)) : List Str := ascS (((lv g ps).filter fun t => !canB g t.1 t.2).map (·.1))
def usesL (g : Pg) (ps : List (Str × Int)) : List Int := g.es.map fun e => (((ps.filter fun s => decide (s.1 = e.name)).length : Nat) : Int)
theorem fm_str (ps : List (Str × Int)) : ps.filterMap (fun s => some (V.str s.1)) = (ps.map (·.1)).map V.str := by
  rw [List.filterMap_eq_map', List.map_map]
  rfl
theorem fm_strif (c : Str × Int → Bool) : ∀ ps : List (Str × Int), ps.filterMap (fun s => if c s then some (V.str s.1) else none) = ((ps.filter c).map (·.1)).map V.str
  | [] => rfl
  | s :: r => by
    rw [List.filterMap_cons, List.filter_cons, fm_strif c r]
    cases c s <;> rfl
theorem pr_at {K : PySem.W.Frag} {H : Hp} {xs : List V} {ps : List (Str × Int)} {i : Nat} {x : V} {s : Str × Int} (hd : DpAll K H xs (ps.map dPr)) (hx : xs[i]? = some x) (hs : ps[i]? = some s) : ∃ b, x = .ref b ∧ SqT K H b [.str s.1, .int s.2] := by
  obtain ⟨d, hdi, dp⟩ := dsAt hd i x hx
  obtain ⟨s', hs', rfl⟩ := map_get hdi
  obtain rfl : s = s' := Option.some.inj (hs.symm.trans hs')
  exact pr_seq dp
theorem prs_at {H : Hp} {xs : List V} {ps : List (Str × Int)} {i : Nat} {x : V} {s : Str × Int} (hd : PrsAt H xs ps) (hx : xs[i]? = some x) (hs : ps[i]? = some s) : ∃ b, x = .ref b ∧ H b = some (.tup [.str s.1, .int s.2]) := by
  obtain ⟨s', hs', b, e, hb⟩ := hd.get hx
  obtain rfl : s = s' := Option.some.inj (hs.symm.trans hs')
  exact ⟨b, e, hb⟩
theorem dec_str (a b : Str) : decide (V.str a = V.str b) = decide (a = b) := by
  by_cases z : a = b
  · rw [decide_eq_true z, decide_eq_true (congrArg V.str z)]
  · rw [decide_eq_false z, decide_eq_false (fun y => z (V.str.inj y))]
theorem lv_len {g : Pg} (G : GW g) : ∀ ps : List (Str × Int), (lv g ps).length ≤ 5 * ps.length
  | [] => Nat.zero_le _
  | s :: r => by
    have ih := lv_len G r
    have e : lv g (s :: r) = lvOf g s ++ lv g r := List.flatMap_cons
    have l5 : (lvOf g s).length ≤ 5 := by
      unfold lvOf
      cases h : rowOf g s.1 with
      | none => exact Nat.zero_le _
      | some e =>
        have := G.rows e (row_is h).1
        rw [List.length_map]
        exact this
    rw [e, List.length_append, List.length_cons]
    omega
theorem lv_all {g : Pg} (G : GW g) {ps : List (Str × Int)} {t : Str × Int} (h : t ∈ lv g ps) : (rowOf g t.1).isSome = true := by
  obtain ⟨s, _, ht⟩ := List.mem_flatMap.mp h
  exact (lv_known G ht).1
def spAs (K : PySem.W.Frag) : Sp := fun vs H Q _ => ∃ (l : Addr) (xs : List Str), vs = [.ref l] ∧ SqL K H l (xs.map V.str) ∧ xs.length < 64 ∧ ∀ (p : Addr) (H' : Hp), Same H H' → H' p = some (.tup ((ascS xs).map V.str)) → Q (.ref p) H'
def spKi (K : PySem.W.Frag) : Sp := fun vs H Q _ => ∃ (q : Addr) (xs : List V) (ps : List (Str × Int)), vs = [.ref q] ∧ SqT K H q xs ∧ DpAll K H xs (ps.map dPr) ∧ ps.length ≤ 12 ∧ ∀ (p : Addr) (H' : Hp), Same H H' → H' p = some (.tup ((kindsL ps).map V.str)) → Q (.ref p) H'
/-- what is told of a web and a plan -/
structure InP (K : PySem.W.Frag) (out : Pg → List (Str × Int) → List V) (vs : List V) (H : Hp) (Q : VK) : Prop where
  ex : ∃ (w : V) (q : Addr) (g : Pg) (xs : List V) (ps : List (Str × Int)), vs = [w, .ref q] ∧ PgAt K H w g ∧ GW g ∧ SqT K H q xs ∧ DpAll K H xs (ps.map dPr) ∧ ps.length ≤ 12 ∧ (∀ s ∈ ps, okP g s) ∧
  ∀ (p : Addr) (H' : Hp), Same H H' → H' p = some (.tup (out g ps)) → Q (.ref p) H'
def spIn (K : PySem.W.Frag) (out : Pg → List (Str × Int) → List V) : Sp := fun vs H Q _ => InP K out vs H Q
abbrev outK (_ : Pg) (ps : List (Str × Int)) : List V := (kindsL ps).map V.str
abbrev outN (g : Pg) (ps : List (Str × Int)) : List V := (nearL g ps).map V.str
abbrev outQ (g : Pg) (ps : List (Str × Int)) : List V := (quietL g ps).map V.str
abbrev outU (g : Pg) (ps : List (Str × Int)) : List V := (usesL g ps).map V.int
section
variable {P : Program} {w : World} {K : PySem.W.Frag} {mg : Str → Option Value} {base : Heap}
end
end Kn


namespace Kn
open PySem PySem.Spec PyProof.Rows L2
abbrev nHe : List Str := ["_law_ask", "e", "_law_flags"]
/-! ### NotUsable -/
def initU : Stmt := (C8.clsBody (topS 3)).getD 0 (.Pass ⟨0, 0, 0, 0⟩)
theorem scInitU : FnScope nInit ["self", "word", "at"] (defScope initU) := ⟨rfl, rfl, rfl, by decide +kernel, rfl, by decide +kernel, by decide +kernel⟩
/-- what is known of the error classes: those names that are asked for, seen from NotUsable -/
structure Asked (K : PySem.W.Frag) (mg : Str → Option Value) (x : Str) (D : Addr) (b : Bool) : Prop where
  ex : ∃ C : Addr, mg x = some (.ref C) ∧ PySem.W.kitOne K (.ref D) (.ref C) = some b
structure ErrN (K : PySem.W.Frag) (mg : Str → Option Value) (D : Addr) : Prop where
  is : IsC K D
  xf : XfC K D
  noW : PySem.W.findIn K (.ref D) "word" = some none
  noA : PySem.W.findIn K (.ref D) "at" = some none
  paper : Asked K mg "PaperError" D false
  web : Asked K mg "WebError" D true
  live : Asked K mg "LiveError" D false
  text : Asked K mg "TextError" D false
  use : Asked K mg "NotUsable" D true
  missed : Asked K mg "Missed" D false
structure ErrU (K : PySem.W.Frag) (mg : Str → Option Value) (D fI : Addr) (fdI : FuncData) : Prop where
  noW : PySem.W.findIn K (.ref D) "word" = some none
  noA : PySem.W.findIn K (.ref D) "at" = some none
  x : OexC K D
  F : Fun K "__init__" "NotUsable.__init__" initU fI fdI
  b : Binds K fdI ["self", "word", "at"] []
  i : PySem.W.findIn K (.ref D) "__init__" = some (some (.ref fI))
  t : PySem.W.typeIn K (.ref fI) = some (.type "function")
  m : mg "NotUsable" = some (.ref D)
abbrev xdU (x : Str) : HO := .xd [("at", .int (-1)), ("word", .str x)]
/-- NotUsable of this word is raised -/
def NoUse (D : Addr) (x : Str) (H : Hp) (E : XK) : Prop := ∀ (dd : Addr) (H' : Hp), Same H H' → H' dd = some (xdU x) → E (.ref D) (some dd) H'
def spMp (K : PySem.W.Frag) (D : Addr) : Sp := fun vs H Q E => ∃ (w v : V) (g : Pg) (p : Int) (d : PyData), vs = [w, .int p, v] ∧ PgAt K H w g ∧ GW g ∧ 0 ≤ p ∧ p.natAbs < 1000 ∧ Dp K H v d ∧ Nice d ∧
  (planD g p d = true → ∀ H', Same H H' → Q .non H') ∧ (planD g p d = false → NoUse D "plan" H E)
structure OfP (K : PySem.W.Frag) (D : Addr) (out : Pg → List (Str × Int) → List V) (vs : List V) (H : Hp) (Q : VK) (E : XK) : Prop where
  ex : ∃ (w v : V) (g : Pg) (p : Int) (d : PyData), vs = [w, .int p, v] ∧ PgAt K H w g ∧ GW g ∧ 0 ≤ p ∧ p.natAbs < 900 ∧ Dp K H v d ∧ Nice d ∧
  (∀ ps : List (Str × Int), d = .tuple (ps.map dPr) → ps.length ≤ 12) ∧
  (∀ ps : List (Str × Int), d = .tuple (ps.map dPr) → planD g p d = true → ∀ r H', Same H H' → H' r = some (.tup (out g ps)) → Q (.ref r) H') ∧ (planD g p d = false → NoUse D "plan" H E)
def spOf (K : PySem.W.Frag) (D : Addr) (out : Pg → List (Str × Int) → List V) : Sp := fun vs H Q E => OfP K D out vs H Q E
theorem plan_prs {g : Pg} {p : Int} {d : PyData} (pb : p.natAbs < 900) (h : planD g p d = true) : ∃ ps : List (Str × Int), d = .tuple (ps.map dPr) ∧ ∀ s ∈ ps, okP g s := by
  match d, h with
  | .tuple ds, h =>
    have h : ((List.range ds.length).all (goodAt g p ds) && (ledP g (g.asks, p) (ds.filterMap toPr) && firstP g p (ds.filterMap toPr))) = true := h
    rw [Bool.and_eq_true] at h
    have z := List.all_eq_true.mp h.1
    have ok := all_ok (g := g) (p := p) (ds := ds) fun k hk => z k (List.mem_range.mpr hk)
    obtain ⟨a, b⟩ := prs_of ok
    refine ⟨_, congrArg PyData.tuple a, fun s hs => ⟨b s hs, ?_⟩⟩
    have m : dPr s ∈ ds := by
      rw [a]
      exact List.mem_map.mpr ⟨s, hs, rfl⟩
    obtain ⟨s', e', _, _, lo, hi, _⟩ := vp_pr (ok _ m)
    have es : s = s' := Option.some.inj (show toPr (dPr s) = some s' from e')
    subst es
    omega
section
variable {P : Program} {w : World} {K : PySem.W.Frag} {mg : Str → Option Value} {base : Heap}
theorem ok_initU {f D : Addr} {fd : FuncData} (T : ErrU K mg D f fd) : FnOk P w K mg base CX0 1 f fd ["self", "word", "at"] (spInit K D) := by
  refine T.F.ok scInitU (fun vs H Q E h => ?_) (fun cdv A outer s H vs Q E hr h => ?_)
  · obtain ⟨a, x, y, rfl, _⟩ := h
    rfl
  · obtain ⟨a, x, y, rfl, ha, q⟩ := h
    refine ⟨_, pss_cons (ps_ost (pv 0) (pv 1)) (pss_one (ps_ost (pv 0) (pv 2))), ?_⟩
    refine ⟨x, rfl, .ref a, rfl, a, D, rfl, T.x, T.noW, .inl ⟨ha, fun dx nd ne => ?_⟩⟩
    refine ⟨y, rfl, .ref a, rfl, a, D, rfl, T.x, T.noA, .inr ⟨dx, [("word", x)], upd_same, (by rw [upd_ne ne, upd_same]), (show 1 ≤ 900 by decide), q dx nd ne⟩⟩
theorem raisesU {D : Addr} {tt : TE} {σ : L2.St} {H G : Hp} {E : XK} {x : Str} (hv : ∀ R : VK, R (.int (-1)) G → tt σ G R) (sm : Same H G) (q : NoUse D x H E) :
    tMkO D (spInit K D) [] (tCons (tC (.str x)) (tCons tt tNil)) σ G fun c d H' => E c d H' := by
  refine hv _ ⟨(show 2 ≤ 1000 by decide), fun a ha => ⟨a, .str x, _, rfl, upd_same, fun dx nd ne => ⟨rfl, dx, _, ?_, upd_same, ?_, ?_⟩⟩⟩
  · rw [upd_ne ne.symm, upd_same]
  · rw [upd_ne ne] at nd
    exact nd
  · rw [upd_ne ne] at nd
    show E _ _ _
    rw [made_raise ha ne]
    exact q dx _ (putS sm (sm.free nd)) upd_same
end
end Kn


/-! Kn: set(a dict whose keys are tuples). -/
namespace Kn
open PySem PySem.Spec PyProof.Rows L2
section
variable {P : Program} {w : World} {A : Around} {E : Value → Shared → Prop} {s : Shared} {a : Addr} {C : Nat}
theorem relaid_bare {t : SetTable} {want N : Nat} (hw : SetTable.sizeAbove want - 1 = N) :
    t.relaid #[] want = some ({ mask := N, place := #[], dummies := #[], finger := t.finger, led := t.led, moves := t.movedTo N, plain := t.plain }, #[]) := by
  unfold SetTable.relaid SetTable.laid
  rw [hw]
  have e : SetTable.layClean N #[] = some (Array.replicate (N + 1) none) := rfl
  rw [e]
  have z : ((List.range (N + 1)).filterMap fun j => ((Array.replicate (N + 1) (none : Option Nat)).getD j none).map (j, ·)) = [] :=
    List.filterMap_eq_nil_iff.mpr fun j hj => by
      have lj := List.mem_range.mp hj
      rw [Array.getD_eq_getD_getElem?, Array.getElem?_replicate, if_pos lj]
      rfl
  show some (_, _) = some _
  rw [z]
  rfl
/-- room in a fresh set -/
theorem lay_bare (T : KSetN w 64 s.heap a []) {want N : Nat} (hw : SetTable.sizeAbove want - 1 = N) (hN : MaskX N) (h128 : SetTable.sizeAbove want ≤ 128) (hC : N = 15 → C ≤ 8) {Q : Unit → Shared → Prop}
    (q : ∀ h', Heap.SameBut a s.heap h' → KSetN w C h' a [] → Q () { s with heap := h' }) : wpAny (model P w) A (setRelay a want) Q E s := by
  obtain ⟨o, es, ep, t, ho, hx, hd, T⟩ := T.ex
  have e0 : es = #[] := by
    have z := T.rows
    rw [List.map_nil] at z
    exact Array.toList_eq_nil_iff.mp z
  have fits := T.fits
  subst e0
  rw [setRelay_eq]
  refine wpAny_bind (wpAny_setState_of ho hd fits ?_)
  dsimp only
  refine wp_if_neg (by rw [sizeLine_eq]; omega) ?_
  try refine wpAny_bind (wpAny_pure ?_)
  rw [show (Array.map (fun (e : Int × Value) => e.1) #[]) = #[] by simp, relaid_bare hw]
  dsimp only
  refine wpAny_bind (wp_if_neg (by simp) ?_)
  try refine wpAny_bind (wpAny_pure ?_)
  refine wpAny_pure ?_
  dsimp only
  refine wpAny_storeSet_of ho hd ?_ (by simp)
  have pos : 0 < N := by
    rcases hN with (z | z | z) | z <;> omega
  refine q _ (Heap.SameBut.update ..) ⟨_, _, _, _, store_at ho hd, ⟨hx.1, hx.2.1, hx.2.2⟩, rfl, ⟨rfl, ⟨List.Pairwise.nil, rfl, rfl, hN, fun x hx => (by cases hx), fun i h j hi => (by simp at hi)⟩, T.led, by show 0 * 5 < N * 3; omega, List.nodup_nil, by show 0 < 64; decide, hC⟩⟩
theorem room_no {t : SetTable} {n : Nat} (f : t.fill = 0) (m : t.mask = 7) (h : n < 5) : t.roomFor n = none := by
  unfold SetTable.roomFor
  rw [f, m, if_neg (by omega)]
theorem room_yes {t : SetTable} {n : Nat} (f : t.fill = 0) (m : t.mask = 7) (p : t.place.size = 0) (h : 5 ≤ n) : t.roomFor n = some (n * 2) := by
  unfold SetTable.roomFor
  rw [f, m, p, if_pos (by omega), Nat.zero_add]
theorem room_fresh (n : Nat) (hn : n ≤ 12) (at0 : s.heap.get? a = some (setObj0 w)) {Q : Unit → Shared → Prop} (q : ∀ h', Heap.SameBut a s.heap h' → KSetN w n h' a [] → Q () { s with heap := h' }) :
    wpAny (model P w) A (setRoomFor a n) Q E s := by
  have K := key_fresh (w := w) at0
  obtain ⟨o, es, ep, t, ho, hx, hd, T⟩ := id K.ex
  cases at0.symm.trans ho
  cases hd
  unfold setRoomFor
  refine wpAny_bind (wpAny_setState_of ho rfl T.fits ?_)
  dsimp only
  by_cases five : n < 5
  · rw [room_no rfl rfl five]
    refine wpAny_pure (q s.heap (Heap.SameBut.refl a s.heap) ⟨_, _, _, _, ho, hx, rfl, ⟨T.rows, T.ok, T.led, T.air, T.nd, T.few, fun e => by cases e⟩⟩)
  · rw [room_yes rfl rfl rfl (by omega)]
    by_cases eight : n < 8
    · have e : SetTable.sizeAbove (n * 2) = 16 := by
        have : n = 5 ∨ n = 6 ∨ n = 7 := by omega
        rcases this with rfl | rfl | rfl <;> decide +kernel
      exact lay_bare (C := n) K (N := 15) (by rw [e]) (.inr rfl) (by rw [e]; decide) (fun _ => by omega) q
    · have e : SetTable.sizeAbove (n * 2) = 32 := by
        have : n = 8 ∨ n = 9 ∨ n = 10 ∨ n = 11 ∨ n = 12 := by omega
        rcases this with rfl | rfl | rfl | rfl | rfl <;> decide +kernel
      exact lay_bare (C := n) K (N := 31) (by rw [e]) (.inl (.inr (.inl rfl))) (by rw [e]; decide) (fun z => by cases z) q
/-- what such a dict holds -/
structure RowsAt (w : World) (es : Array DictEntry) (ms : List Mem) : Prop where
  len : es.size = ms.length
  at_ : ∀ (i : Nat) (m : Mem), ms[i]? = some m → ∃ v, es[i]? = some ⟨hk w m, .ref m.1, v⟩
/-- the loop of set.__init__ over the keys of a dict -/
theorem dict_loop {d : Addr} {od : Obj} {es : Array DictEntry} {ep : Nat} {ms : List Mem} (hod : s.heap.get? d = some od) (hdd : od.data = .dict es ep) (R : RowsAt w es ms) (keys : ∀ m ∈ ms, KeyAt s.heap m) (hda : d ≠ a) (hn : ms.length ≤ 12) (hu : A.units + 8 < cLine)
    (K : KSetN w ms.length s.heap a []) {Q : Unit → Shared → Prop} (q : ∀ h' M, Heap.SameBut a s.heap h' → KSetN w ms.length h' a M → Of ms M → Q () { s with heap := h' }) {nm : String} :
    wpAny (model P w) A (forIn [:es.size] PUnit.unit fun i (_ : PUnit) => (do
          let l' ← dictEntries d
          match l'[i]? with
            | some e => do
              let _ ← holding [e.key] (setAddHashed a e.key e.hash)
              let ep' ← dictEpoch d
              if (ep' != ep) = true then do
                  (unsupported nm : Sem PUnit)
                  pure (ForInStep.yield PUnit.unit)
                else pure (ForInStep.yield PUnit.unit)
            | _ => do
              (unsupported "internal:set-from-dict" : Sem PUnit)
              pure (ForInStep.yield PUnit.unit) : Sem (ForInStep PUnit))) (fun _ s' => Q () s') E s := by
  rw [Std.Legacy.Range.forIn_eq_forIn_range']
  simp only [Std.Legacy.Range.size, Nat.sub_zero, Nat.add_sub_cancel, Nat.div_one]
  refine wpAny_forIn_list _ (fun rest _ s' => ∃ h' i M, s' = { s with heap := h' } ∧ rest = List.range' i (es.size - i) ∧ i ≤ es.size ∧ Heap.SameBut a s.heap h' ∧ KSetN w ms.length h' a M ∧ Of (ms.take i) M ∧ ∀ m ∈ ms, KeyAt h' m) _ ?_ ?_ _ _
    ⟨s.heap, 0, [], rfl, by simp, Nat.zero_le _, Heap.SameBut.refl _ _, K, by rw [List.take_zero]; exact Of.nil, keys⟩
  · rintro x rest b s' ⟨h', i, M, rfl, hr, hi, sb, T, g, ks⟩
    have lt : i < es.size := by
      rcases Nat.lt_or_ge i es.size with z | z
      · exact z
      · rw [Nat.sub_eq_zero_of_le z] at hr
        simp at hr
    obtain ⟨rfl, er⟩ : x = i ∧ rest = List.range' (i + 1) (es.size - (i + 1)) := by
      rw [show es.size - i = (es.size - (i + 1)) + 1 by omega, List.range'_succ] at hr
      injection hr with z1 z2
      exact ⟨z1, z2⟩
    have hod' : h'.get? d = some od := (sb.2 d hda).trans hod
    refine wpAny_bind (wpAny_dictEntries hod' hdd ?_)
    obtain ⟨m, hm⟩ : ∃ m, ms[x]? = some m := ⟨ms[x]'(by rw [← R.len]; exact lt), List.getElem?_eq_getElem _⟩
    obtain ⟨v, ev⟩ := R.at_ x m hm
    rw [ev]
    dsimp only
    have mM := List.mem_of_getElem? hm
    have lg := g.len
    have l2 : (ms.take x).length ≤ x := by rw [List.length_take]; omega
    have lm := R.len
    refine wpAny_bind (wpAny_holding (set_add (s := { s with heap := h' }) T (fun y hy => ks y (List.mem_of_mem_take (g.sub y hy))) (ks m mM) hu (by omega) (by omega) fun b' h2 M2 sb2 T2 c1 c2 _ => ?_))
    have tk : ms.take x ++ [m] = ms.take (x + 1) := by rw [List.take_add_one, hm]; rfl
    have g2 : Of (ms.take (x + 1)) M2 := by
      rw [← tk]
      rcases Classical.em (m.2 ∈ M.map (·.2)) with c | c
      · rw [c1 c]
        exact g.old c
      · exact g.new (c2 c)
    have hod2 : h2.get? d = some od := (sb2.2 d hda).trans hod'
    obtain ⟨oA, esA, epA, tA, hoA, _, hdA, _⟩ := T.ex
    refine wpAny_bind (wpAny_dictEpoch hod2 hdd ?_)
    rw [if_neg (by simp)]
    exact wpAny_pure ⟨h2, x + 1, M2, rfl, er, lt, sb.trans sb2, T2, g2, fun y hy => (ks y hy).same hoA hdA sb2⟩
  · rintro b s' ⟨h', i, M, rfl, hr, hi, sb, T, g, ks⟩
    have e : i = es.size := by
      rcases Nat.lt_or_ge i es.size with z | z
      · rw [show es.size - i = (es.size - (i + 1)) + 1 by omega, List.range'_succ] at hr
        exact nomatch hr
      · exact Nat.le_antisymm hi z
    rw [e, R.len, List.take_length] at g
    exact q h' M sb T g
/-- set(d) of a dict of keys -/
theorem key_set_dict {d : Addr} {od : Obj} {es : Array DictEntry} {ep : Nat} (ms : List Mem) {Q : Value → Shared → Prop} (hod : s.heap.get? d = some od) (hcl : od.ExactDict) (hdd : od.data = .dict es ep) (ns : (d == sysModules) = false) (R : RowsAt w es ms) (keys : ∀ m ∈ ms, KeyAt s.heap m) (hn : ms.length ≤ 12) (hu : A.units + 32 < cLine)
    (q : ∀ (h' : Heap) (M : List Mem), KSet w h' s.heap.objs.size M → Of ms M → (∀ b o, s.heap.get? b = some o → h'.get? b = some o) → Q (.ref s.heap.objs.size) { s with heap := h' }) :
    wpAny (model P w) A (call (.type "set") [.ref d]) Q E s := by
  obtain ⟨cl, tl, hmro⟩ := PySem.F.called_set.mro
  have k1 := PySem.F.called_set.made
  have k2 := PySem.F.called_set.sub
  have k3 := PySem.F.called_set.notType
  have k4 := PySem.F.called_set.canCreate
  have k5 := PySem.F.typeCall_set_1 (.ref d)
  refine wpAny_call (codeAny_of_tree ?_)
  show wpAny _ _ (callAny (.type "set") _) _ _ _
  refine wpAny_pure ⟨Code.quiet_builtin _ (by decide +kernel), codeAny_builtin PySem.F.entry_type_call ?_⟩
  rw [Around.under_plain (weight_type_call_type "set" [.ref d] []) rfl]
  repeat (any_goals (first | assumption | wp_step))
  refine codeAny_mono (code_set_led1 (.ref d) (E := E) (Q₁ := fun v s1 => v = .ref s.heap.objs.size ∧ s1 = { s with heap := s.heap.push (setObj0 w) }) ⟨rfl, rfl⟩) fun r s1 hr => ?_
  rcases r with e | fl
  · exact hr
  cases fl with
  | brk => exact hr.elim
  | cont => exact hr.elim
  | next => exact hr.elim
  | ret v =>
    obtain ⟨rfl, rfl⟩ := hr
    have at0 : (s.heap.push (setObj0 w)).get? s.heap.objs.size = some (setObj0 w) := Heap.get?_push_size _ rfl
    have ty0 : Shared.TypeIs { s with heap := s.heap.push (setObj0 w) } (.ref s.heap.objs.size) "set" := ⟨_, at0, rfl⟩
    have k6 := PySem.F.called_set.init.lookup
    have k7 := PySem.F.called_set.init.bind (.ref s.heap.objs.size)
    repeat (any_goals (first | assumption | wp_step))
    refine codeAny_mono (codeAny_call_builtin (R := wants (fun r s2 => r = .none ∧ ∃ h' M, s2 = { s with heap := h' } ∧ KSet w h' s.heap.objs.size M ∧ Of ms M ∧ ∀ b o, s.heap.get? b = some o → h'.get? b = some o) E)
      PySem.F.called_set.init.plain PySem.F.entry_set_init (check_set_init_1 ty0 ?_)) fun r2 s2 hr2 => ?_
    · have ho' : (s.heap.push (setObj0 w)).get? d = some od := Heap.get?_push_of_some _ hod
      have td : Shared.TypeIs { s with heap := s.heap.push (setObj0 w) } (.ref d) "dict" := ⟨_, ho', hcl.1⟩
      have j1 := PySem.F.sub_dict_set
      have j2 := PySem.F.sub_dict_frozenset
      have j3 : (Value.type "dict" == Value.type "dict") = true := by decide
      unfold Builtin.«set.__init__» noKeywords Builtin.Frozenset.updateFrom
      generalize hRF : setRoomFor = RF
      wp_walk
      rw [hdd]
      dsimp only
      refine wpAny_pure ?_
      have lS : d < s.heap.objs.size := Heap.lt_size hod
      have nd : d ≠ s.heap.objs.size := Nat.ne_of_lt lS
      refine wpAny_bind (wpAny_dictEntries ho' hdd ?_)
      subst hRF
      refine wpAny_bind (room_fresh (s := { s with heap := s.heap.push (setObj0 w) }) es.size (by rw [R.len]; exact hn) at0 fun h1 sb1 K1 => ?_)
      have hod1 : h1.get? d = some od := (sb1.2 d nd).trans ho'
      have ks1 : ∀ m ∈ ms, KeyAt h1 m := fun m hm => ((keys m hm).move fun b o e => Heap.get?_push_of_some _ e).same at0 rfl sb1
      refine wpAny_bind (wpAny_dictEntries hod1 hdd ?_)
      have fin : ∀ h' M, Heap.SameBut s.heap.objs.size h1 h' → KSetN w ms.length h' s.heap.objs.size M → Of ms M → (KSet w h' s.heap.objs.size M ∧ Of ms M ∧ ∀ b o, s.heap.get? b = some o → h'.get? b = some o) := fun h' M sb2 T g =>
        ⟨⟨_, T⟩, g, fun b o e => by
          have n : b ≠ s.heap.objs.size := Nat.ne_of_lt (Heap.lt_size e)
          rw [sb2.2 b n, sb1.2 b n]
          exact Heap.get?_push_of_some _ e⟩
      refine wpAny_bind (wpAny_mono (dict_loop (A := A.in1.in1) (s := { s with heap := h1 }) (Q := fun _ s' => ∃ h' M, s' = { s with heap := h' } ∧ KSet w h' s.heap.objs.size M ∧ Of ms M ∧ ∀ b o, s.heap.get? b = some o → h'.get? b = some o) hod1 hdd R ks1 nd hn ?hroom (by rw [← R.len]; exact K1) (fun h' M sb2 T g => ⟨h', M, rfl, fin h' M sb2 T g⟩)) ?_ (fun _ _ e => e))
      case hroom =>
        simp only [Around.in1_units]
        omega
      rintro _ s' ⟨h', M, rfl, f1, f2, f3⟩
      refine wpAny_pure ?_
      show wpAny _ _ (ret Value.none) _ _ _
      exact wpAny_pure ⟨rfl, h', M, rfl, f1, f2, f3⟩
    · rcases r2 with e | fl2
      · exact hr2
      cases fl2 with
      | brk => exact hr2.elim
      | cont => exact hr2.elim
      | next => exact hr2.elim
      | ret v =>
        obtain ⟨rfl, h', M, rfl, T, g, keep⟩ := hr2
        repeat (any_goals (first | assumption | wp_step))
        exact q _ M T g keep
end
end Kn


/-! Kn: the call of set with a dict whose keys are tuples, over the layer. -/
namespace Kn
open PySem PySem.Spec PyProof.Rows L2
def kD : L2.Key → PyData
  | .inl i => .int i
  | .inr x => .str x
/-- the key tuples of a dict as cells -/
def CellsOf (H : Hp) (kvs : List (List L2.Key × V)) (ps : List Cell) : Prop := Paired (fun p (c : Cell) => H c.1 = some (.tup (p.1.map kV)) ∧ c.2 = .tuple (p.1.map kD)) kvs ps
section
variable {X : Cx}
theorem dp_kV {K : PySem.W.Frag} {H : Hp} : ∀ k : List L2.Key, DpAll K H (k.map kV) (k.map kD)
  | [] => .nil
  | .inl i :: r => .cons (.int i) (dp_kV r)
  | .inr x :: r => .cons (.str x) (dp_kV r)
theorem kd_key : ∀ k : List L2.Key, keysB (k.map kD) = true
  | [] => rfl
  | .inl i :: r => kd_key r
  | .inr x :: r => kd_key r
theorem kd_deep : ∀ k : List L2.Key, PyData.depthAll (k.map kD) = 0
  | [] => rfl
  | .inl i :: r => by
    show max 0 (PyData.depthAll (r.map kD)) = 0
    rw [kd_deep r]
    rfl
  | .inr x :: r => by
    show max 0 (PyData.depthAll (r.map kD)) = 0
    rw [kd_deep r]
    rfl
theorem kd_hash (w : World) : ∀ k : List L2.Key, NestedKey.hashes w (keyDs (k.map kD)) = k.map (keyH w)
  | [] => rfl
  | .inl i :: r => by
    show hashInt i :: NestedKey.hashes w (keyDs (r.map kD)) = _
    rw [kd_hash w r]
    rfl
  | .inr x :: r => by
    show hashStr w x :: NestedKey.hashes w (keyDs (r.map kD)) = _
    rw [kd_hash w r]
    rfl
theorem cells_of {H : Hp} : ∀ {kvs : List (List L2.Key × V)} {xs : List (List L2.Key × Addr × Value)}, KT H kvs xs → CellsOf H kvs (xs.map fun x => (x.2.1, .tuple (x.1.map kD)))
  | _, _, .nil => .nil
  | _, _, .cons h t => .cons ⟨h.2.1, by rw [h.1]⟩ (cells_of t)
theorem CellsOf.mem {H : Hp} : ∀ {kvs : List (List L2.Key × V)} {ps : List Cell}, CellsOf H kvs ps → ∀ c ∈ ps, ∃ k : List L2.Key, H c.1 = some (.tup (k.map kV)) ∧ c.2 = .tuple (k.map kD) ∧ k ∈ kvs.map (·.1)
  | _, _, .nil, c, h => by cases h
  | p :: kvs, _, .cons a t, c, h => by
    rcases List.mem_cons.mp h with rfl | h
    · exact ⟨p.1, a.1, a.2, List.mem_cons_self ..⟩
    · obtain ⟨k, z1, z2, z3⟩ := CellsOf.mem t c h
      exact ⟨k, z1, z2, List.mem_cons_of_mem _ z3⟩
theorem CellsOf.all {H : Hp} : ∀ {kvs : List (List L2.Key × V)} {ps : List Cell}, CellsOf H kvs ps → ∀ k ∈ kvs.map (·.1), ∃ c ∈ ps, c.2 = .tuple (k.map kD)
  | _, _, .nil, c, h => by cases h
  | p :: kvs, _, .cons a t, k, h => by
    rcases List.mem_cons.mp h with rfl | h
    · exact ⟨_, List.mem_cons_self .., a.2⟩
    · obtain ⟨c, z1, z2⟩ := CellsOf.all t k h
      exact ⟨c, List.mem_cons_of_mem _ z1, z2⟩
def rSetDT (K : PySem.W.Frag) (w : World) : List V → Hp → VK → Prop := fun vs H Q => ∃ (d : Addr) (kvs : List (List L2.Key × V)), vs = [.ref d] ∧ H d = some (.dT kvs) ∧ kvs.length ≤ 12 ∧
  ∀ (a : Addr) (ps qs : List Cell), CellsOf H kvs ps → H a = none → (∀ q ∈ qs, q ∈ ps) → (∀ p ∈ ps, keyD p.2 ∈ qs.map fun q => keyD q.2) → (qs.map fun q => keyD q.2).Nodup → Q (.ref a) (upd H a (SetK w a (qs.map memOf)))
theorem cr_setDT (hc : X.calm = true) (hu : X.A.units + 64 < cLine) : CallR X (.type "set") (rSetDT X.K X.w) := by
  intro pins s σ H vs us Q I r h
  obtain ⟨d, kvs, rfl, hd, few, q⟩ := h
  rw [Vals.ref1 r]
  obtain ⟨z, hs, xs, pr, o, es, ep, ho, hx, hdt, he, his, hn⟩ := dt_of I.hok hd
  have l2 : kvs.length = xs.length := Paired.length pr
  have cl := cells_of pr
  generalize hps : (xs.map fun x => ((x.2.1, .tuple (x.1.map kD)) : Cell)) = ps at cl
  have lp : ps.length = xs.length := by rw [← hps, List.length_map]
  have R : RowsAt X.w es (ps.map memOf) := by
    refine ⟨by rw [size_of_entries he, List.length_map, lp], fun i m hm => ?_⟩
    rw [← hps, List.map_map, List.getElem?_map] at hm
    rw [entry_at he i]
    cases e : xs[i]? with
    | none => rw [e] at hm; cases hm
    | some x =>
      rw [e] at hm
      obtain rfl := Option.some.inj hm
      refine ⟨x.2.2, ?_⟩
      show some (entryOfKey _ x) = some _
      congr 1
      show (⟨reduceHash (Builtin.Tuple.tupleHashOf (x.1.map (keyH X.w))), .ref x.2.1, x.2.2⟩ : DictEntry) = ⟨reduceHash (Builtin.Tuple.tupleHashOf (NestedKey.hashes X.w (keyDs (x.1.map kD)))), .ref x.2.1, x.2.2⟩
      rw [kd_hash]
  refine key_set_dict (ps.map memOf) ho hx hdt hs R (fun m hm => ?_) (by rw [List.length_map, lp]; omega) (by omega) fun h' M T g keep => ?_
  · obtain ⟨p, hpm, rfl⟩ := List.mem_map.mp hm
    obtain ⟨k, e1, e2, _⟩ := cl.mem p hpm
    have dp : Dp X.K H (.ref p.1) p.2 := by
      rw [e2]
      exact .tup (.inl (.inl e1)) (dp_kV k)
    have kb : keyB p.2 = true := by
      rw [e2]
      exact kd_key k
    refine ⟨(dp_key I dp kb).2, ?_⟩
    show (keyD p.2).depth ≤ 8
    rw [key_depth _ kb, e2]
    show PyData.depthAll (k.map kD) + 1 ≤ 8
    rw [kd_deep]
    decide
  · obtain ⟨qs, rfl, sub⟩ := lift_sub M g.sub
    obtain ⟨_, T1⟩ := T.ex
    obtain ⟨o', es', ep', t', _, _, _, TT⟩ := T1.ex
    have nd := TT.nd
    rw [List.map_map] at nd
    refine ⟨.ref _, upd H s.heap.objs.size (SetK X.w s.heap.objs.size (qs.map memOf)), I.laid (t' := s.toks) keep (Nat.le_refl _) (setK_new T), rfl, q _ ps qs cl (I.hok.fresh (Nat.le_refl _)) sub (fun p hpm => ?_) nd⟩
    have z := g.all (memOf p) (List.mem_map.mpr ⟨p, hpm, rfl⟩)
    rw [List.map_map] at z
    exact z
end
end Kn


namespace Kn
open PySem PySem.Spec PyProof.Rows L2
def spLvL (K : PySem.W.Frag) : Sp := fun vs H Q _ => ∃ (w : V) (q : Addr) (g : Pg) (xs : List V) (ps : List (Str × Int)), vs = [w, .ref q] ∧ PgAt K H w g ∧ GW g ∧ SqL K H q xs ∧ DpAll K H xs (ps.map dPr) ∧ ps.length ≤ 1000 ∧ (∀ s ∈ ps, (rowOf g s.1).isSome = true) ∧
  ∀ (l : Addr) (ys : List V) (H' : Hp), Same H H' → H' l = some (.lst ys) → PrsAt H' ys (lv g ps) → ys.length ≤ 8 * ps.length → Q (.ref l) H'
/-! ### pairs as cells of sets -/
abbrev PCell := Addr × (Str × Int)
abbrev pcD (c : PCell) : Cell := (c.1, dPr c.2)
def PC (H : Hp) (cs : List PCell) : Prop := ∀ c ∈ cs, H c.1 = some (.tup [.str c.2.1, .int c.2.2])
theorem pcs_of {H : Hp} : ∀ {ys : List V} {ts : List (Str × Int)}, PrsAt H ys ts → ∃ cs : List PCell, ys = cs.map (fun c => V.ref c.1) ∧ ts = cs.map (·.2) ∧ PC H cs
  | _, _, .nil => ⟨[], rfl, rfl, fun _ h => by cases h⟩
  | _, _, .cons (s := s) a b => by
    obtain ⟨p, e, hp⟩ := a
    obtain ⟨cs, e1, e2, h⟩ := pcs_of b
    refine ⟨(p, s) :: cs, by rw [List.map_cons, ← e1, e], by rw [List.map_cons, ← e2], fun c hc => ?_⟩
    rcases List.mem_cons.mp hc with rfl | hc
    · exact hp
    · exact h c hc
theorem pcs_to {H : Hp} : ∀ {cs : List PCell}, PC H cs → PrsAt H (cs.map fun c => V.ref c.1) (cs.map (·.2))
  | [], _ => .nil
  | c :: r, h => .cons ⟨c.1, rfl, h c (List.mem_cons_self ..)⟩ (pcs_to fun x hx => h x (List.mem_cons_of_mem _ hx))
theorem PC.same {H H' : Hp} {cs : List PCell} (h : PC H cs) (s : Same H H') : PC H' cs := fun c hc => s _ _ (h c hc)
theorem pc_dp {K : PySem.W.Frag} {H : Hp} {c : PCell} (h : H c.1 = some (.tup [.str c.2.1, .int c.2.2])) : Dp K H (.ref (pcD c).1) (pcD c).2 ∧ keyB (pcD c).2 = true ∧ (pcD c).2.depth ≤ 8 :=
  ⟨.tup (.inl (.inl h)) (.cons (.str _) (.cons (.int _) .nil)), rfl, (show 1 ≤ 8 by decide)⟩
theorem keyD_pr {s t : Str × Int} (h : keyD (dPr s) = keyD (dPr t)) : s = t := by
  have h : NestedKey.tup [.text s.1, .num s.2] = .tup [.text t.1, .num t.2] := h
  injection h with h
  injection h with h1 h2
  injection h1 with h1
  injection h2 with h2 _
  injection h2 with h2
  exact Prod.ext h1 h2
theorem asc_irr {s t : Str × Int} (a : PySem.W.dataLt (dPr s) (dPr t) = true) (b : PySem.W.dataLt (dPr t) (dPr s) = true) : False := by
  have z := PyProof.Rows.lex_trans _ _ _ a b
  have z : PySem.W.dataLt (dPr s) (dPr s) = true := z
  rw [PySem.W.dataLt_self] at z
  cases z
/-- pairs in order, told by their members -/
theorem asc_eq : ∀ {xs ys : List (Str × Int)}, Asc xs → Asc ys → (∀ s, s ∈ xs ↔ s ∈ ys) → xs = ys
  | [], [], _, _, _ => rfl
  | [], y :: ys, _, _, h => by cases (h y).mpr (List.mem_cons_self ..)
  | x :: xs, [], _, _, h => by cases (h x).mp (List.mem_cons_self ..)
  | x :: xs, y :: ys, a, b, h => by
    have a' := List.pairwise_cons.mp a
    have b' := List.pairwise_cons.mp b
    have e : x = y := by
      rcases List.mem_cons.mp ((h x).mp (List.mem_cons_self ..)) with e | m
      · exact e
      rcases List.mem_cons.mp ((h y).mpr (List.mem_cons_self ..)) with e | n
      · exact e.symm
      · exact (asc_irr (a'.1 y n) (b'.1 x m)).elim
    subst e
    refine congrArg _ (asc_eq a'.2 b'.2 fun s => ?_)
    have z := h s
    constructor
    · intro m
      rcases List.mem_cons.mp (z.mp (List.mem_cons_of_mem _ m)) with e | n
      · subst e
        exact (asc_irr (a'.1 s m) (a'.1 s m)).elim
      · exact n
    · intro m
      rcases List.mem_cons.mp (z.mpr (List.mem_cons_of_mem _ m)) with e | n
      · subst e
        exact (asc_irr (b'.1 s m) (b'.1 s m)).elim
      · exact n
theorem Asc.nd {xs : List (Str × Int)} (h : Asc xs) : xs.Nodup := h.imp fun {s t} z e => by
  subst e
  exact asc_irr z z
section
variable {P : Program} {w : World} {K : PySem.W.Frag} {mg : Str → Option Value} {base : Heap}
theorem ok_lvL {f fE fT : Addr} {fd fdE fdT : FuncData} (F : Fun K "leavings" "leavings" (topS 16) f fd) (Fe : Def K mg "fee_of" 10 ["web", "kind"] fE fdE) (OE : FnOk P w K mg base CX0 2 fE fdE ["web", "kind"] (spFe K))
    (Ta : Def K mg "table_of" 11 ["web", "kind"] fT fdT) (OT : FnOk P w K mg base CX0 2 fT fdT ["web", "kind"] (spTa K)) : FnOk P w K mg base CX0 3 f fd ["web", "pairs"] (spLvL K) := by
  refine F.ok scLv (fun vs H Q E h => ?_) (fun cdv A outer s H vs Q E hr h => ?_)
  · obtain ⟨w0, q, g, xs, ps, rfl, _⟩ := h
    rfl
  · obtain ⟨w0, q0, g, xs, ps, rfl, pg, G, hT, hps, few, all, q⟩ := h
    refine ⟨_, pss_one (ps_ret (pe_lc2 (wi1 := iTup K (tCall (spTa K) [] E0 (tCons (tVar 0) (tCons (tVar 2) tNil)))) (own := [("name", 2), ("mark", 3), ("kind", 4)]) (vs1 := [4]) (g := gTup K 2 (gCons (gName 2) (gCons (gName 3) gNil))) (g1 := gName 4) (by rfl) scLv.nd (pi_list (pv 1))
      (blkOk_by (own := [("name", 2), ("mark", 3), ("kind", 4)]) (N := nLv) (sc := defScope (topS 16)) (by decide +kernel)) (by decide)
      (fun _ _ _ _ _ => pg_tup (by rfl) (pgs_cons (pg_name (i := 2) scLv.nd rfl (Or.inl rfl)) (pgs_cons (pg_name (i := 3) scLv.nd rfl (Or.inl rfl)) pgs_nil))) (fun _ _ _ _ _ => pts_nil)
      ?hi1 (fun _ _ _ _ _ => pg_name (i := 4) scLv.nd rfl (Or.inl rfl)) (fun _ _ _ _ _ => pts_nil)
      (fun _ _ _ _ _ => pe_tup (pa_cons (pv 4) (pa_cons (pe_op op_sub (pv 3) (pe_call OE hr (by rfl) Fe.m Fe.F.kp Fe.b .nil pass0 (pa_cons (pv 0) (pa_cons (pv 2) pa_nil)))) pa_nil))))), ?_⟩
    case hi1 => exact fun _ _ _ _ _ => pi_tup (pe_call OT hr (by rfl) Ta.m Ta.F.kp Ta.b .nil pass0 (pa_cons (pv 0) (pa_cons (pv 2) pa_nil)))
    dsimp only [tRet, tTup, tCons, tC, tCB]
    have lx : xs.length = ps.length := by rw [dsLen hps, List.length_map]
    refine ⟨.ref q0, rfl, q0, rfl, ⟨xs, hT⟩, fun D nD => ?_⟩
    refine ⟨fun i m F => m = ps.length - i ∧ i ≤ ps.length ∧ Same H F ∧ ∃ acc, F D = some (.lst acc) ∧ acc.length ≤ 5 * i ∧ PrsAt F acc (lv g (ps.take i)), ⟨_, rfl, Nat.zero_le _, same_new nD, [], upd_same, Nat.zero_le _, .nil⟩, ?_⟩
    rintro i m F ⟨rfl, hi, sm, acc, eD, la, hacc⟩
    have qT := sm.seq hT
    by_cases lt : i < ps.length
    · have hx : xs[i]? = some (xs[i]'(by omega)) := List.getElem?_eq_getElem (by omega)
      have hs : ps[i]? = some (ps[i]'lt) := List.getElem?_eq_getElem lt
      generalize ps[i]'lt = s0 at hs
      obtain ⟨d0, hd0, pr⟩ := dsAt hps i _ hx
      obtain rfl : dPr s0 = d0 := by
        rw [List.getElem?_map, hs] at hd0
        exact Option.some.inj hd0
      obtain ⟨px, ex, hpx⟩ := pr_seq pr
      obtain ⟨e, he⟩ := Option.isSome_iff_exists.mp (all s0 (List.mem_of_getElem? hs))
      have em := (row_is he).1
      have e5 := G.rows e em
      have el : lvOf g s0 = e.row.map fun k => (k, s0.2 - e.fee) := by
        unfold lvOf
        rw [he]
      refine .inr ⟨⟨xs, _, qT, hx⟩, fun F' => Same H F' ∧ ∃ acc, F' D = some (.lst acc) ∧ acc.length ≤ 5 * (i + 1) ∧ PrsAt F' acc (lv g (ps.take (i + 1))), fun F' z => ⟨ps.length - (i + 1), by omega, rfl, lt, z⟩, fun x F' y => ?_⟩
      obtain ⟨rfl, y⟩ := y
      have ey := y xs qT
      rw [hx] at ey
      cases ey
      refine ⟨px, _, ex, tupS sm hpx, rfl, _, _, rfl, _, _, rfl, rfl, rfl, ?_⟩
      dsimp only [tYes]
      refine iteT ?_
      refine ⟨w0, rfl, .str s0.1, rfl, w0, g, s0.1, e, rfl, pg.same sm, he, fun qe hqe => ⟨qe, rfl, ⟨_, hqe⟩, ?_⟩⟩
      refine ⟨fun j k F1 => k = e.row.length - j ∧ j ≤ e.row.length ∧ Same H F1 ∧ TS F' F1 ∧ ∃ acc, F1 D = some (.lst acc) ∧ acc.length ≤ 5 * i + j ∧ PrsAt F1 acc (lv g (ps.take i) ++ (e.row.take j).map fun k => (k, s0.2 - e.fee)), ?_, ?_⟩
      · exact ⟨_, rfl, Nat.zero_le _, sm, TS.refl _, acc, eD, la, by rw [List.take_zero, List.map_nil, List.append_nil]; exact hacc⟩
      · rintro j k F1 ⟨rfl, hj, s1, u1, acc1, eD1, la1, hacc1⟩
        have qE := tupT u1 hqe
        by_cases lt1 : j < e.row.length
        · have hk : e.row[j]? = some (e.row[j]'lt1) := List.getElem?_eq_getElem lt1
          generalize e.row[j]'lt1 = kn at hk
          have hkv : (e.row.map V.str)[j]? = some (.str kn) := by rw [List.getElem?_map, hk]; rfl
          refine .inr ⟨⟨_, _, qE, hkv⟩, fun F2 => Same H F2 ∧ TS F' F2 ∧ ∃ acc, F2 D = some (.lst acc) ∧ acc.length ≤ 5 * i + (j + 1) ∧ PrsAt F2 acc (lv g (ps.take i) ++ (e.row.take (j + 1)).map fun k => (k, s0.2 - e.fee)), fun F2 z => ⟨e.row.length - (j + 1), by omega, rfl, lt1, z⟩, fun x F2 y => ?_⟩
          obtain ⟨rfl, y⟩ := y
          have ey := y _ qE
          rw [hkv] at ey
          cases ey
          refine ⟨rfl, ?_⟩
          refine iteT ?_
          refine ⟨.str kn, rfl, .int s0.2, rfl, w0, rfl, .str s0.1, rfl, w0, g, s0.1, e, rfl, pg.same s1, he, s0.2, e.fee, rfl, rfl, ⟨show 2 ≤ sizeLine by decide, fun t nt => ?_⟩⟩
          have ne : D ≠ t := ne_of_none eD1 nt
          have t1 : TS F2 (upd F2 t (.tup [.str kn, .int (s0.2 - e.fee)])) := ts_same (same_new nt)
          have t2 : TS (upd F2 t (.tup [.str kn, .int (s0.2 - e.fee)])) (upd (upd F2 t (.tup [.str kn, .int (s0.2 - e.fee)])) D (.lst (acc1 ++ [.ref t]))) := ts_lst ((upd_ne ne).trans eD1)
          refine ⟨acc1, (upd_ne ne).trans eD1, Nat.lt_of_le_of_lt (show acc1.length ≤ 1000000 by omega) (by decide), putS (putS s1 (s1.free nt)) nD, u1.trans (t1.trans t2), acc1 ++ [.ref t], upd_same, by rw [List.length_append]; show acc1.length + 1 ≤ _; omega, ?_⟩
          rw [List.take_add_one, hk, List.map_append, ← List.append_assoc]
          exact PrsAt.app ((hacc1.ts t1).ts t2) (.cons ⟨t, rfl, t2.1 _ _ upd_same⟩ .nil)
        · obtain rfl : j = e.row.length := by omega
          refine .inl ⟨⟨_, qE, by rw [List.length_map]; exact Nat.le_refl _⟩, s1, acc1, eD1, by omega, ?_⟩
          rw [lv_snoc hs, el]
          rw [List.take_length] at hacc1
          exact hacc1
    · obtain rfl : i = ps.length := by omega
      refine .inl ⟨⟨xs, qT, by omega⟩, ?_⟩
      rw [List.take_length] at hacc
      exact q D acc F sm eD hacc (by omega)
end
/-- what comes of a set of pairs, sorted -/
def SetEnd (K : PySem.W.Frag) (ts : List (Str × Int)) (H : Hp) (Q : VK) : Prop := ∀ (q : Addr) (zs : List V) (rs : List (Str × Int)) (H' : Hp), Same H H' → H' q = some (.tup zs) → PrsAt H' zs rs → Asc rs → (∀ s, s ∈ rs ↔ s ∈ ts) → Q (.ref q) H'
section
variable {K : PySem.W.Frag} {w : World}
theorem sorted_end {cs : List PCell} {qs : List Cell} {a : Addr} {H : Hp} {Q : VK} {R : VK} (pc : PC H cs) (na : H a = none) (sub : ∀ q ∈ qs, q ∈ cs.map pcD) (all : ∀ p ∈ cs.map pcD, keyD p.2 ∈ qs.map fun q => keyD q.2) (nd : (qs.map fun q => keyD q.2).Nodup)
    (q : SetEnd K (cs.map (·.2)) H Q) (fin : ∀ (l : Addr) (vs : List V) (H' : Hp), Same H H' → H' l = some (.lst vs) → (∀ p, H' p = none → Q (.ref p) (upd H' p (.tup vs))) → R (.ref l) H') : rSortedK K w [.ref a] (upd H a (SetK w a (qs.map memOf))) R := by
  obtain ⟨cq, rfl, hcq⟩ := lift_sub qs sub
  have s1 := same_new (o := SetK w a ((cq.map pcD).map memOf)) na
  have pq : PC (upd H a (SetK w a ((cq.map pcD).map memOf))) cq := fun c hc => s1 _ _ (pc c (hcq c hc))
  refine ⟨a, cq.map pcD, rfl, upd_same, fun p hp => ?_, ?_, ?_, fun l rs nl pm pw => ?_⟩
  · obtain ⟨c, hc, rfl⟩ := List.mem_map.mp hp
    exact pc_dp (pq c hc)
  · have := pr_alike (cq.map (·.2))
    rw [List.map_map] at this ⊢
    exact this
  · have := pr_sortable (cq.map (·.2))
    rw [List.map_map] at this ⊢
    exact this
  · obtain ⟨cr, pr, rfl⟩ := lift_perm rs cq pm
    have eus : (cr.map pcD).map (fun q => V.ref q.1) = cr.map fun c => V.ref c.1 := List.map_map ..
    rw [eus]
    have s2 := s1.trans (same_new (o := .lst (cr.map fun c => V.ref c.1)) nl)
    have e2 : (upd (upd H a (SetK w a ((cq.map pcD).map memOf))) l (.lst (cr.map fun c => V.ref c.1))) l = some (.lst (cr.map fun c => V.ref c.1)) := upd_same
    generalize upd (upd H a (SetK w a ((cq.map pcD).map memOf))) l (.lst (cr.map fun c => V.ref c.1)) = H2 at s2 e2 ⊢
    have pr2 : PC H cr := fun c hc => pc c (hcq c (pr.mem_iff.mp hc))
    have ndq : (cq.map (·.2)).Nodup := by
      rw [List.map_map] at nd
      refine List.pairwise_map.mpr ((List.pairwise_map.mp nd).imp fun {x y} h e => h ?_)
      show keyD (dPr x.2) = keyD (dPr y.2)
      rw [e]
    have asc : Asc (cr.map (·.2)) := by
      have z := asc_of (cs := cr.map fun c => (V.ref c.1, c.2)) (by rw [List.map_map]; exact List.pairwise_map.mpr ((List.pairwise_map.mp pw).imp fun {x y} h => h)) (by rw [List.map_map]; exact ((pr.map (·.2)).nodup_iff).mpr ndq)
      rw [List.map_map] at z
      exact z
    refine fin l _ H2 s2 e2 fun p np => ?_
    have s3 := same_new (o := .tup (cr.map fun c => V.ref c.1)) np
    refine q p _ (cr.map (·.2)) _ (s2.trans s3) upd_same ?_ asc fun s => ?_
    · exact pcs_to ((pr2.same s2).same s3)
    · constructor
      · intro h
        obtain ⟨c, hc, rfl⟩ := List.mem_map.mp h
        exact List.mem_map.mpr ⟨c, hcq c (pr.mem_iff.mp hc), rfl⟩
      · intro h
        obtain ⟨c, hc, rfl⟩ := List.mem_map.mp h
        have z := all (pcD c) (List.mem_map.mpr ⟨c, hc, rfl⟩)
        rw [List.map_map] at z
        obtain ⟨c', hc', e⟩ := List.mem_map.mp z
        rw [← keyD_pr (s := c'.2) (t := c.2) e]
        exact List.mem_map.mpr ⟨c', pr.mem_iff.mpr hc', rfl⟩
end
end Kn


namespace Kn
open PySem PySem.Spec PyProof.Rows L2
abbrev nLe : List Str := ["web", "marks"]
theorem scLe : FnScope nLe ["web", "marks"] (defScope (topS 17)) := ⟨rfl, rfl, rfl, by decide +kernel, rfl, by decide +kernel, by decide +kernel⟩
abbrev nFl : List Str := ["web", "plan", "found", "pair"]
theorem fm_if {α β : Type} {k : α → Bool} {f : α → β} : ∀ {l : List α}, l.filterMap (fun c => if k c = true then some (f c) else none) = (l.filter k).map f
  | [] => rfl
  | c :: r => by
    rw [List.filterMap_cons, List.filter_cons]
    by_cases z : k c = true
    · rw [if_pos z, if_pos z, List.map_cons, fm_if]
    · rw [if_neg z, if_neg z, fm_if]
def spLe (K : PySem.W.Frag) : Sp := fun vs H Q _ => ∃ (w : V) (g : Pg) (p : Int), vs = [w, .int p] ∧ PgAt K H w g ∧ GW g ∧
  ∀ (q : Addr) (ys : List V) (H' : Hp), Same H H' → H' q = some (.tup ys) → PrsAt H' ys (firstF g p) → Q (.ref q) H'
def spFl (K : PySem.W.Frag) : Sp := fun vs H Q _ => ∃ (w : V) (L : Addr) (g : Pg) (ys : List V) (ts : List (Str × Int)), vs = [w, .ref L] ∧ PgAt K H w g ∧ GW g ∧ SqL K H L ys ∧ PrsAt H ys ts ∧ ts.length ≤ 12 ∧ (∀ s ∈ ts, okP g s) ∧
  ∀ (q : Addr) (zs : List V) (rs : List (Str × Int)) (H' : Hp), Same H H' → H' q = some (.tup zs) → PrsAt H' zs rs → rs.Nodup → (∀ s, s ∈ rs ↔ (s ∈ lv g ts ∧ s ∉ ts ∧ canB g s.1 s.2 = true)) → Q (.ref q) H'
section
variable {P : Program} {w : World} {K : PySem.W.Frag} {mg : Str → Option Value} {base : Heap}
theorem ok_le {f fC : Addr} {fd fdC : FuncData} (F : Fun K "least_plan" "least_plan" (topS 17) f fd) (Cs : Def K mg "can_send" 12 ["web", "kind", "mark"] fC fdC) (OC : FnOk P w K mg base CX0 2 fC fdC ["web", "kind", "mark"] (spCs K)) :
    FnOk P w K mg base CX0 3 f fd ["web", "marks"] (spLe K) := by
  refine F.ok scLe (fun vs H Q E h => ?_) (fun cdv A outer s H vs Q E hr h => ?_)
  · obtain ⟨w0, g, p, rfl, _⟩ := h
    rfl
  · obtain ⟨w0, g, p, rfl, pg, G, q⟩ := h
    obtain ⟨pw, q0, ws, rfl, hpw, hq0, hE⟩ := id pg
    refine ⟨_, (pss_one (ps_ret (pe_ifExp (pt_val (pe_call OC hr (by rfl) Cs.m Cs.F.kp Cs.b .nil pass0 (pa_cons (pv 0) (pa_cons (pe_ix ix_tup (pv 0) pe_int (fun _ _ => rfl)) (pa_cons (pv 1) pa_nil))))) (pe_tup (pa_cons (pe_tup (pa_cons (pe_ix ix_tup (pv 0) pe_int (fun _ _ => rfl)) (pa_cons (pv 1) pa_nil))) pa_nil)) (pe_tup pa_nil)))), ?_⟩
    have askIn := mem_rows.mp G.asks
    refine ⟨.ref pw, rfl, .ref pw, rfl, pw, _, 1, .str g.asks, rfl, rfl, hpw, atI_nat (j := 1) rfl, .int p, rfl, .ref pw, g, g.asks, p, rfl, pg, askIn, _, rfl, ?_⟩
    have eF : firstF g p = if canB g g.asks p then [(g.asks, p)] else [] := rfl
    cases z : canB g g.asks p
    · rw [z] at eF
      refine iteF ⟨(show 0 ≤ sizeLine by decide), fun t nt => q t [] _ (same_new nt) upd_same ?_⟩
      rw [eF]
      exact .nil
    · rw [z] at eF
      refine iteT ⟨.ref pw, rfl, pw, _, 1, .str g.asks, rfl, rfl, hpw, atI_nat (j := 1) rfl, .int p, rfl, (show 2 ≤ sizeLine by decide), fun t nt => ⟨(show 1 ≤ sizeLine by decide), fun t2 n2 => ?_⟩⟩
      have s1 := same_new (o := .tup [.str g.asks, .int p]) nt
      have s2 := same_new (o := .tup [.ref t]) n2
      refine q t2 [.ref t] _ (s1.trans s2) upd_same ?_
      rw [eF]
      exact .cons ⟨t, rfl, s2 _ _ upd_same⟩ .nil
end
end Kn


namespace Kn
open PySem PySem.Spec PyProof.Rows L2
abbrev nPo2 : List Str := ["web", "marks"]
def spCmR (K : PySem.W.Frag) (D : Addr) : Sp := fun vs H Q E => ∃ (v : V) (d : PyData), vs = [v] ∧ Dp K H v d ∧ (natB d = true → Q .non H) ∧ (natB d = false → NoUse D "marks" H E)
theorem nat_int {d : PyData} (h : natB d = true) : ∃ p : Int, d = .int p ∧ 0 ≤ p := by
  match d, h with
  | .int p, h => exact ⟨p, rfl, of_decide_eq_true h⟩
section
variable {P : Program} {w : World} {K : PySem.W.Frag} {mg : Str → Option Value} {base : Heap}
theorem ok_cmR {f fN fI D : Addr} {fd fdN fdI : FuncData} (F : Fun K "check_marks" "check_marks" (topS 14) f fd) (T : ErrU K mg D fI fdI) (N : Def K mg "is_number" 6 ["thing"] fN fdN) (ON : FnOk P w K mg base CX0 2 fN fdN ["thing"] (spB K natB)) : FnOk P w K mg base (L2.CX P w) 3 f fd ["marks"] (spCmR K D) := by
  have GI : FnOk P w K mg base CX0 1 fI fdI ["self", "word", "at"] (spInit K D) := ok_initU T
  refine F.okX scCm (fun vs H Q E h => ?_) (fun cdv A outer s H vs Q E hr h => ?_)
  · obtain ⟨v, d, rfl, _⟩ := h
    rfl
  · obtain ⟨v, d, rfl, hd, qy, qn⟩ := h
    refine ⟨_, (pss_one (ps_if (pt_not (pt_val (pe_call ON (hr.mono (by decide)) (by rfl) N.m N.F.kp N.b .nil pass0 (pa_cons (pv 0) pa_nil)))) (pss_one (ps_raise rfl (takes_of rfl rfl rfl rfl) (pmk_oex T.x T.i T.t GI (hr.mono (by decide)) T.b .nil pass0 rfl T.m (pa_cons pe_str (pa_cons (pe_un un_neg pe_int) pa_nil))))) pss_nil)), ?_⟩
    refine ⟨v, rfl, v, d, rfl, hd, _, rfl, ?_⟩
    cases z : natB d
    · exact iteT (raisesU (fun R r => ⟨1, rfl, r⟩) (Same.refl H) (qn z))
    · exact iteF (qy z)
end
end Kn


namespace Kn
open PySem PySem.Spec PyProof.Rows L2
abbrev nBm : List Str := ["web", "marks", "kind", "best", "senders", "left", "mark"]
theorem scBm : FnScope nBm ["web", "marks"] (defScope (topS 19)) := ⟨rfl, rfl, rfl, by decide +kernel, rfl, by decide +kernel, by decide +kernel⟩
abbrev nNo2 : List Str := ["web", "marks", "best", "kind", "mark"]
theorem scNo2 : FnScope nNo2 ["web", "marks"] (defScope (topS 20)) := ⟨rfl, rfl, rfl, by decide +kernel, rfl, by decide +kernel, by decide +kernel⟩
abbrev namesG (g : Pg) : List Str := g.es.map (·.name)
structure DictN (g : Pg) (b : Str → Int) (kvs : List (Key × V)) : Prop where
  few : kvs.length ≤ 4
  at_ : ∀ n ∈ namesG g, valV kvs (.inr n) = some (.int (b n))
theorem DictN.put {g : Pg} {b : Str → Int} {kvs : List (Key × V)} (h : DictN g b kvs) {n : Str} (hn : n ∈ namesG g) (m : Int) : DictN g (upN b n m) (putK kvs (.inr n) (.int m)) := by
  refine ⟨by rw [putK_len (h.at_ n hn)]; exact h.few, fun k hk => ?_⟩
  rw [valV_put]
  by_cases e : k = n
  · rw [e, if_pos rfl, upN_at]
  · rw [if_neg (fun z => e (Sum.inr.inj z)), upN_ne e]
    exact h.at_ k hk
/-- the dict of -1 for some names -/
def minusK : List Str → List (Key × V)
  | [] => []
  | n :: r => minusK r ++ [(.inr n, .int (-1))]
theorem put_new {kvs : List (Key × V)} {k : Key} {v : V} (h : valV kvs k = none) : putK kvs k v = kvs ++ [(k, v)] := by
  unfold putK
  rw [if_neg (by rw [valV_any, h]; decide)]
def minusL (ns : List Str) : List (Key × V) := ns.map fun n => (.inr n, .int (-1))
theorem minus_at : ∀ {ns : List Str} {n : Str}, valV (minusL ns) (.inr n) = if n ∈ ns then some (.int (-1)) else none
  | [], n => rfl
  | k :: r, n => by
    show valV ((.inr k, .int (-1)) :: minusL r) (.inr n) = _
    unfold valV
    rw [List.find?_cons]
    by_cases e : k = n
    · subst e
      rw [decide_eq_true rfl, if_pos (List.mem_cons_self ..)]
      rfl
    · rw [decide_eq_false (fun z => e (Sum.inr.inj z))]
      have ih := minus_at (ns := r) (n := n)
      unfold valV at ih
      rw [ih]
      by_cases m : n ∈ r
      · rw [if_pos m, if_pos (List.mem_cons_of_mem _ m)]
      · rw [if_neg m, if_neg (fun z => (List.mem_cons.mp z).elim (fun y => e y.symm) m)]
theorem minus_snoc {ns : List Str} {n : Str} (h : n ∉ ns) : putK (minusL ns) (.inr n) (.int (-1)) = minusL (ns ++ [n]) := by
  rw [put_new (by rw [minus_at, if_neg h])]
  unfold minusL
  rw [List.map_append]
  rfl
theorem minus_ok {g : Pg} (G : GW g) : DictN g (fun _ => -1) (minusL (namesG g)) := ⟨by unfold minusL; rw [List.length_map, List.length_map]; exact G.few, fun n hn => by rw [minus_at, if_pos hn]⟩
theorem ts_dk {D : Addr} {H : Hp} {kvs : List (Key × V)} {o : HO} (e : H D = some (.dK kvs)) : TS H (upd H D o) := ts_keep e keep_upd
structure BmP (K : PySem.W.Frag) (D : Addr) (out : Pg → (Str → Int) → List V) (vs : List V) (H : Hp) (Q : VK) (E : XK) : Prop where
  ex : ∃ (w vm : V) (g : Pg) (dm : PyData), vs = [w, vm] ∧ PgAt K H w g ∧ Dp K H vm dm ∧ (natB dm = false → NoUse D "marks" H E) ∧ ∀ p, dm = .int p → 0 ≤ p → GW g ∧ p ≤ 6 ∧
    ∀ (q : Addr) (b : Str → Int) (H' : Hp), Same H H' → BestOf g p b → H' q = some (.tup (out g b)) → Q (.ref q) H'
def outB (g : Pg) (b : Str → Int) : List V := (namesG g).map fun n => V.int (b n)
def outR (g : Pg) (b : Str → Int) : List V := ((namesG g).filter fun n => decide (0 ≤ b n)).map V.str
def spBm (K : PySem.W.Frag) (D : Addr) (out : Pg → (Str → Int) → List V) : Sp := fun vs H Q E => BmP K D out vs H Q E
def spLb (K : PySem.W.Frag) : Sp := fun vs H Q _ => ∃ (w : V) (g : Pg) (p : Int), vs = [w, .int p] ∧ PgAt K H w g ∧ GW g ∧ 0 ≤ p ∧ p ≤ 6 ∧
  ∀ (q : Addr) (b : Str → Int) (H' : Hp), Same H H' → BestOf g p b → H' q = some (.tup (outB g b)) → Q (.ref q) H'
theorem src_known {g : Pg} (G : GW g) {p : Int} {s : Str × Int} (h : Src g p s) : (rowOf g s.1).isSome = true ∧ s.2 ≤ p := by
  rcases h with rfl | h
  · exact ⟨mem_rows.mp G.asks, Int.le_refl _⟩
  · have := h.lt G
    exact ⟨this.2, by omega⟩
section
variable {P : Program} {w : World} {K : PySem.W.Frag} {mg : Str → Option Value} {base : Heap}
theorem ok_bm {f fM fN fE fL fS D0 : Addr} {fd fdM fdN fdE fdL fdS : FuncData} (F : Fun K "best_marks" "best_marks" (topS 19) f fd)
    (Cm : Def K mg "check_marks" 14 ["marks"] fM fdM) (OM : FnOk P w K mg base (L2.CX P w) 3 fM fdM ["marks"] (spCmR K D0))
    (N : Def K mg "names_of" 8 ["web"] fN fdN) (ON : FnOk P w K mg base CX0 1 fN fdN ["web"] (spNo K))
    (Le : Def K mg "least_plan" 17 ["web", "marks"] fE fdE) (OE : FnOk P w K mg base CX0 3 fE fdE ["web", "marks"] (spLe K))
    (Lv : Def K mg "leavings" 16 ["web", "pairs"] fL fdL) (OL : FnOk P w K mg base CX0 3 fL fdL ["web", "pairs"] (spLvL K))
    (Cs : Def K mg "can_send" 12 ["web", "kind", "mark"] fS fdS) (OS : FnOk P w K mg base CX0 2 fS fdS ["web", "kind", "mark"] (spCs K)) (mli : mg "list" = none) (ml : mg "len" = none) (mt : mg "tuple" = none) :
    FnOk P w K mg base (L2.CX P w) 4 f fd ["web", "marks"] (spBm K D0 outB) := by
  refine F.okX scBm (fun vs H Q E h => ?_) (fun cdv A outer s H vs Q E hr h => ?_)
  · obtain ⟨w0, vm, g, dm, rfl, _⟩ := h.ex
    rfl
  · obtain ⟨w0, vm, g, dm, rfl, pg, hd, qn, qy⟩ := h.ex
    have hu := hu_of hr
    refine ⟨_, (pss_cons (ps_expr (pe_call OM (hr.mono (by decide)) (by rfl) Cm.m Cm.F.kp Cm.b .nil (passes_call (takes_of rfl rfl rfl rfl) (fun _ _ _ _ h => h)) (pa_cons (pv 1) pa_nil)))
      (pss_cons (ps_set (i := 3) scBm.nd rfl (.inr rfl) (pe_dc (own := [("kind", 2)]) (g := gName 2) (by rfl) scBm.nd (pi_tup (pe_call ON (hr.mono (by decide)) (by rfl) N.m N.F.kp N.b .nil pass0 (pa_cons (pv 0) pa_nil))) (blkOk_by (own := [("kind", 2)]) (N := nBm) (sc := defScope (topS 19)) (by decide +kernel)) (fun _ _ _ _ _ => pg_name (i := 2) scBm.nd rfl (Or.inl rfl)) (fun _ _ _ _ _ => pts_nil) (fun _ _ _ _ _ => (pv 2)) (fun _ _ _ _ _ => (pe_un un_neg pe_int))))
      (pss_cons (ps_set (i := 4) scBm.nd rfl (.inl rfl) (pe_callTy call_list_of (by rfl) mli (by decide +kernel) (pa_cons (pe_call OE (hr.mono (by decide)) (by rfl) Le.m Le.F.kp Le.b .nil pass0 (pa_cons (pv 0) (pa_cons (pv 1) pa_nil))) pa_nil)))
      (pss_cons (ps_while (passes_of rfl) (pt_cmpR op_gt (pe_callB call_len_seq (by rfl) ml PySem.boot_len (pa_cons (pv 4) pa_nil)) pe_int (nomark _)) (pss_cons (ps_set (i := 5) scBm.nd rfl (.inl rfl) (pe_call OL (hr.mono (by decide)) (by rfl) Lv.m Lv.F.kp Lv.b .nil pass0 (pa_cons (pv 0) (pa_cons (pv 4) pa_nil))))
      (pss_cons (ps_set (i := 4) scBm.nd rfl (.inl rfl) (pe_lst pa_nil))
      (pss_one (ps_for (passes_of rfl) rfl (pi_list (pv 5)) (pg_tup (by rfl) (pgs_cons (pg_name (i := 2) scBm.nd rfl (.inl rfl)) (pgs_cons (pg_name (i := 6) scBm.nd rfl (.inl rfl)) pgs_nil))) (pss_one (ps_if (pt_cmpR op_gt (pv 6) (pe_dget hu (pv 3) (pv 2) (fun _ _ => rfl)) (nomark _)) (pss_cons (ps_dput hu (pv 3) (pv 2) (pv 6) rfl)
      (pss_one (ps_if (pt_val (pe_call OS (hr.mono (by decide)) (by rfl) Cs.m Cs.F.kp Cs.b .nil pass0 (pa_cons (pv 0) (pa_cons (pv 2) (pa_cons (pv 6) pa_nil))))) (pss_one (ps_expr (pe_bm PySem.F.plainAttrs_list PySem.F.slot_list_append PySem.F.type_list_append mt_append (pv 4) (pa_cons (pe_tup (pa_cons (pv 2) (pa_cons (pv 6) pa_nil))) pa_nil)))) pss_nil))) pss_nil)))))))
      (pss_one (ps_ret (pe_callTy call_tuple_of (by rfl) mt (by decide +kernel) (pa_cons (pe_lc (own := [("kind", 2)]) (g := gName 2) (by rfl) scBm.nd (pi_tup (pe_call ON (hr.mono (by decide)) (by rfl) N.m N.F.kp N.b .nil pass0 (pa_cons (pv 0) pa_nil))) (blkOk_by (own := [("kind", 2)]) (N := nBm) (sc := defScope (topS 19)) (by decide +kernel)) (fun _ _ _ _ _ => (pg_name (i := 2) scBm.nd rfl (Or.inl rfl))) (fun _ _ _ _ _ => pts_nil) (fun _ _ _ _ _ => (pe_dget hu (pv 3) (pv 2) (fun _ _ => rfl)))) pa_nil)))))))), ?_⟩
    refine ⟨vm, rfl, vm, dm, rfl, hd, fun z => ?_, qn⟩
    obtain ⟨p, rfl, p0⟩ := nat_int z
    obtain ⟨G, p6, qy⟩ := qy p rfl p0
    obtain rfl : vm = .int p := by cases hd; rfl
    have few := G.few
    have nd := G.nd
    dsimp only
    refine asg_seq ⟨w0, rfl, w0, g, rfl, pg, by omega, fun pn H1 s1 e1 => ⟨pn, rfl, ⟨_, .inl (.inl e1)⟩, fun B nB => ?_⟩⟩
    refine dc_tup (K := K) (a := pn) (xs := (namesG g).map V.str) (fun i J => Same H1 J ∧ J B = some (.dK (minusL ((namesG g).take i)))) ⟨same_new nB, upd_same⟩ (fun i J _ h => .inl (.inl (h.1 _ _ e1))) ?_ ?_
    · rintro i x J hx ⟨sJ, eB⟩
      obtain ⟨n, hn, rfl⟩ := map_get hx
      have lt := (List.getElem?_eq_some_iff.mp hn).1
      refine ⟨rfl, ?_⟩
      dsimp only [tYes]
      refine iteT ⟨.str n, rfl, 1, rfl, minusL ((namesG g).take i), .inr n, rfl, eB, ?_, ?_⟩
      · unfold minusL
        rw [List.length_map, List.length_take, List.length_map]
        exact small' (by omega)
      · have nn : n ∉ (namesG g).take i := fun h => by
          obtain ⟨j, hj⟩ := List.mem_iff_getElem?.mp h
          have lj := (List.getElem?_eq_some_iff.mp hj).1
          rw [List.length_take] at lj
          rw [List.getElem?_take, if_pos (by omega)] at hj
          have lt' : i < (g.es.map (·.name)).length := lt
          have := (List.getElem?_inj (by omega) nd).mp (hj.trans hn.symm)
          omega
        rw [minus_snoc nn, List.take_add_one, hn]
        exact ⟨putS sJ nB, upd_same⟩
    intro H2 ⟨s2, eB⟩
    rw [List.length_map, List.take_length] at eB
    have s02 := s1.trans s2
    have nB0 := s1.free nB
    dsimp only [gName, List.set]
    refine asg_seq ⟨w0, rfl, .int p, rfl, w0, g, p, rfl, pg.same s02, G, fun qe ye H3 s3 ee he => ⟨qe, ye, rfl, .inr (.inl (.inl ee)), fun S nS => ?_⟩⟩
    have sS := same_new (o := .lst ye) nS
    have eS : (upd H3 S (.lst ye)) S = some (.lst ye) := upd_same
    have eB4 := sS _ _ (s3 _ _ eB)
    have he4 := he.ts (ts_same sS)
    have s04 := (s02.trans s3).trans sS
    have nS0 := (s02.trans s3).free nS
    generalize upd H3 S (.lst ye) = H4 at eS eB4 he4 s04 ⊢
    have h0 : Half g p (fun _ => -1) (· ∈ firstF g p) := Half.first G (fun c => by unfold firstF; rw [c]; exact List.mem_singleton.mpr rfl) fun s hs => by
      unfold firstF at hs
      split at hs
      · exact List.mem_singleton.mp hs
      · cases hs
    have l0 : (firstF g p).length ≤ 32 := by
      unfold firstF
      split
      · exact (show 1 ≤ 32 by decide)
      · exact Nat.zero_le _
    have c00 : ∀ s ∈ firstF g p, canB g s.1 s.2 = true := fun s hs => by
      unfold firstF at hs
      split at hs
      · next c => rw [List.mem_singleton.mp hs]; exact c
      · cases hs
    have dn0 := minus_ok G
    generalize (fun _ : Str => (-1 : Int)) = b0 at h0 dn0
    generalize minusL (namesG g) = kv0 at eB4 dn0
    generalize firstF g p = ss0 at he4 h0 l0 c00
    clear eB s2 s02 s1 s3 sS e1 ee he
    dsimp only [gName, List.set]
    refine ⟨fun m σ J => ∃ (b : Str → Int) (kvs : List (Key × V)) (S : Addr) (ys : List V) (ss : List (Str × Int)) (y2 y5 y6 : Option V), m = wB g b + (if ss = [] then 0 else 1) ∧ σ = [some w0, some (.int p), y2, some (.ref B), some (.ref S), y5, y6] ∧ Same H J ∧ J B = some (.dK kvs) ∧ DictN g b kvs ∧ J S = some (.lst ys) ∧ PrsAt J ys ss ∧ Half g p b (· ∈ ss) ∧ (∀ s ∈ ss, canB g s.1 s.2 = true) ∧ ss.length ≤ 32,
      ⟨_, b0, kv0, S, ye, ss0, none, none, none, rfl, rfl, s04, eB4, dn0, eS, he4, h0, c00, l0⟩, ?_⟩
    rintro m σ J ⟨b, kvs, S, ys, ss, y2, y5, y6, rfl, rfl, sJ, eB, dn, eS, hy, hf, css, lss⟩
    have ly := hy.len
    refine ⟨.ref S, rfl, S, ys, rfl, .inl (.inl (.inl eS)), (ys.length : Nat), 0, rfl, rfl, _, rfl, ?_⟩
    by_cases em : ss = []
    · subst em
      have ly0 : ys.length = 0 := ly
      rw [decide_eq_false (show ¬ (0 : Int) < (ys.length : Nat) by omega)]
      refine iteF ?_
      have best := hf.best G (fun s h => by cases h)
      refine ⟨w0, rfl, w0, g, rfl, pg.same sJ, by omega, fun pn H5 s5 e5 => ⟨pn, rfl, ⟨_, .inl (.inl e5)⟩, fun D nD => ?_⟩⟩
      have eB5 := s5 _ _ eB
      refine lc_sel (walk_tup (K := K) (a := pn) (xs := (namesG g).map V.str)) (namesG g) (fun n => some (V.int (b n))) nD (List.length_map ..).symm (by rw [List.length_map, List.length_map]; omega) (fun J' s => .inl (.inl (s _ _ e5))) ?_ ?_
      · intro j x n J' N' Y hx hn sm no yes
        rw [List.getElem?_map, hn] at hx
        obtain rfl : V.str n = x := Option.some.inj hx
        refine ⟨rfl, ?_⟩
        dsimp only [tYes]
        refine iteT ⟨.ref B, rfl, .str n, rfl, B, .int (b n), rfl, ?_, yes _ J' (Same.refl J') rfl⟩
        rw [← dn.at_ n (List.mem_of_getElem? hn)]
        exact DGet.k (k := .inr n) (sm _ _ eB5)
      · intro J' s6 eD
        have ef : ((namesG g).filterMap fun n => some (V.int (b n))) = outB g b := congrFun (List.filterMap_eq_map (f := fun n => V.int (b n))) (namesG g)
        rw [ef] at eD
        refine ⟨D, _, rfl, .inl ⟨.inl (.inl eD), fun t nt => qy t b _ (((sJ.trans s5).trans s6).trans (same_new nt)) best upd_same⟩⟩
    · have pos : 0 < ys.length := by
        rw [ly]
        exact List.length_pos_iff.mpr em
      rw [decide_eq_true (show (0 : Int) < (ys.length : Nat) by omega)]
      rw [if_neg em]
      refine iteT ⟨fun σ' J' => ∃ m', m' < wB g b + 1 ∧ ∃ (b : Str → Int) (kvs : List (Key × V)) (S : Addr) (ys : List V) (ss : List (Str × Int)) (y2 y5 y6 : Option V), m' = wB g b + (if ss = [] then 0 else 1) ∧ σ' = [some w0, some (.int p), y2, some (.ref B), some (.ref S), y5, y6] ∧ Same H J' ∧ J' B = some (.dK kvs) ∧ DictN g b kvs ∧ J' S = some (.lst ys) ∧ PrsAt J' ys ss ∧ Half g p b (· ∈ ss) ∧ (∀ s ∈ ss, canB g s.1 s.2 = true) ∧ ss.length ≤ 32, fun σ' J' z => z, ?_⟩
      have low := hf.low
      refine asg_seq ⟨w0, rfl, .ref S, rfl, w0, S, g, ys, ss, rfl, pg.same sJ, G, .inl (.inl eS), hy.dp, by omega, fun s hs => (src_known G (hf.src s hs)).1, fun lq ls H5 s5 el hl ll => ?_⟩
      dsimp only [gName, List.set]
      refine asg_seq ⟨(show 0 ≤ sizeLine by decide), fun S2 nS2 => ?_⟩
      dsimp only [gName, List.set]
      have s6 := same_new (o := .lst []) nS2
      have eS2 : (upd H5 S2 (.lst [])) S2 = some (.lst []) := upd_same
      have el6 := s6 _ _ el
      have eB6 := s6 _ _ (s5 _ _ eB)
      have hl6 := hl.ts (ts_same s6)
      have sJ6 := (sJ.trans s5).trans s6
      have nS20 := (sJ.trans s5).free nS2
      have neSl : lq ≠ S2 := ne_of_none el nS2
      have neBS : B ≠ S2 := ne_of_none (s5 _ _ eB) nS2
      have neBl : B ≠ lq := ne_of eB6 el6 (by intro z; cases z)
      generalize upd H5 S2 (.lst []) = H6 at eS2 el6 eB6 hl6 sJ6 ⊢
      have lll : (lv g ss).length ≤ 160 := by have := lv_len G ss; omega
      have inL : ∀ t ∈ lv g ss, canB g t.1 t.2 = true ∨ True := fun _ _ => .inr trivial
      have lls := hl6.len
      refine ⟨.ref lq, rfl, lq, rfl, ⟨_, .inl (.inl el6)⟩, ?_⟩
      refine for_it (walk_list (K := K) (a := lq) (xs := ls)) (fun j σ F => ∃ (b' : Str → Int) (kvs' : List (Key × V)) (zs : List V) (ns : List (Str × Int)) (y2 y6 : Option V), σ = [some w0, some (.int p), y2, some (.ref B), some (.ref S2), some (.ref lq), y6] ∧ Same H F ∧ F B = some (.dK kvs') ∧ DictN g b' kvs' ∧ F S2 = some (.lst zs) ∧ PrsAt F zs ns ∧ F lq = some (.lst ls) ∧ PrsAt F ls (lv g ss) ∧ Half g p b' (fun s => s ∈ ss ∨ s ∈ ns) ∧ (∀ s ∈ ns, canB g s.1 s.2 = true) ∧ (∀ t ∈ (lv g ss).take j, t.2 ≤ b' t.1) ∧ ns.length + wB g b' ≤ wB g b)
        ⟨b, kvs, [], [], _, _, rfl, sJ6, eB6, dn, eS2, .nil, el6, hl6, hf.drop (fun s h => h.elim id fun z => by cases z) (fun s h _ => .inr (.inl h)), (fun _ h => by cases h), (fun _ h => by cases h), by show 0 + wB g b ≤ _; omega⟩ (fun j σ F _ ⟨_, _, _, _, _, _, _, _, _, _, _, _, z, _⟩ => .inl (.inl z)) ?_ ?_
      · rintro j x σ F0 F hj ⟨b', kvs', zs, ns, y2, y6, rfl, sF, eBF, dnF, eSF, hz, elF, hlF, hfF, cns, upF, wF⟩ ⟨rfl, hx⟩
        obtain ⟨t, ht, pt⟩ := hlF.get hx
        have tk : (lv g ss).take (j + 1) = (lv g ss).take j ++ [t] := by rw [List.take_add_one, ht]; rfl
        have tm := List.mem_of_getElem? ht
        have kn := lv_all G tm
        have rt : Rch g p t := by
          obtain ⟨s0, hs0, hl0⟩ := List.mem_flatMap.mp tm
          exact (hf.src s0 hs0).left (css s0 hs0) hl0
        have tlt := rt.lt G
        have nm := mem_rows.mpr kn
        obtain ⟨pa, rfl, hpa⟩ := id pt
        have lz := hz.len
        have wfew := wB_few G low
        refine ⟨pa, _, rfl, .inl (.inl hpa), rfl, _, _, rfl, _, _, rfl, rfl, ?_⟩
        dsimp only [gName, List.set]
        refine ⟨.int t.2, rfl, .ref B, rfl, .str t.1, rfl, B, .int (b' t.1), rfl, ?_, t.2, b' t.1, rfl, rfl, _, rfl, ?_⟩
        · rw [← dnF.at_ t.1 nm]
          exact DGet.k (k := .inr t.1) eBF
        by_cases lt : b' t.1 < t.2
        · rw [decide_eq_true lt]
          have dn2 := dnF.put nm t.2
          have w2 := wB_up G nm lt (by omega)
          have low' := hfF.low
          refine iteT ⟨.int t.2, rfl, .ref B, rfl, .str t.1, rfl, B, _, rfl, DPut.k (k := .inr t.1) eBF (small' (Nat.le_trans dnF.few (by decide))), ?_⟩
          have t2 : TS F (upd F B (.dK (putK kvs' (.inr t.1) (.int t.2)))) := ts_dk eBF
          have s2 : Same H (upd F B (.dK (putK kvs' (.inr t.1) (.int t.2)))) := putS sF nB0
          have eB2 : (upd F B (.dK (putK kvs' (.inr t.1) (.int t.2)))) B = some (.dK (putK kvs' (.inr t.1) (.int t.2))) := upd_same
          have eS3 : (upd F B (.dK (putK kvs' (.inr t.1) (.int t.2)))) S2 = some (.lst zs) := (upd_ne neBS.symm).trans eSF
          have el3 : (upd F B (.dK (putK kvs' (.inr t.1) (.int t.2)))) lq = some (.lst ls) := (upd_ne neBl.symm).trans elF
          have hz2 := hz.ts t2
          have hl2 := hlF.ts t2
          generalize upd F B (.dK (putK kvs' (.inr t.1) (.int t.2))) = F2 at t2 s2 eB2 eS3 el3 hz2 hl2 ⊢
          have upF2 : ∀ u ∈ (lv g ss).take (j + 1), u.2 ≤ upN b' t.1 t.2 u.1 := fun u hu => by
            rw [tk] at hu
            by_cases e : u.1 = t.1
            · rw [e, upN_at]
              rcases List.mem_append.mp hu with h | h
              · have := upF u h
                rw [e] at this
                omega
              · rw [List.mem_singleton.mp h]
                exact Int.le_refl _
            · rw [upN_ne e]
              rcases List.mem_append.mp hu with h | h
              · exact upF u h
              · exact absurd (by rw [List.mem_singleton.mp h]) e
          refine ⟨w0, rfl, .str t.1, rfl, .int t.2, rfl, w0, g, t.1, t.2, rfl, pg.same s2, kn, _, rfl, ?_⟩
          cases zc : canB g t.1 t.2
          · refine iteF ⟨upN b' t.1 t.2, _, zs, ns, _, _, rfl, s2, eB2, dn2, eS3, hz2, el3, hl2, hfF.up G rt lt (fun s h => h) (fun s h => .inl h) (fun c => by rw [zc] at c; cases c), cns, upF2, by omega⟩
          · refine iteT ⟨.ref S2, rfl, .inl ⟨rfl, _, .inl (.inl eS3)⟩, .str t.1, rfl, .int t.2, rfl, (show 2 ≤ sizeLine by decide), fun tt nt => ?_⟩
            have s3 := same_new (o := .tup [.str t.1, .int t.2]) nt
            have neSt : S2 ≠ tt := ne_of_none eS3 nt
            have eS4 : (upd F2 tt (.tup [.str t.1, .int t.2])) S2 = some (.lst zs) := (upd_ne neSt).trans eS3
            have p4 : PrAt (upd F2 tt (.tup [.str t.1, .int t.2])) (.ref tt) t := ⟨tt, rfl, upd_same⟩
            refine ⟨S2, zs, .ref tt, rfl, rfl, eS4, small' (by omega), ?_⟩
            have t4 : TS (upd F2 tt (.tup [.str t.1, .int t.2])) (upd (upd F2 tt (.tup [.str t.1, .int t.2])) S2 (.lst (zs ++ [.ref tt]))) := ts_lst eS4
            have tt4 := (ts_same s3).trans t4
            refine ⟨upN b' t.1 t.2, _, zs ++ [.ref tt], ns ++ [t], _, _, rfl, putS (s2.trans s3) nS20, (upd_ne neBS).trans (s3 _ _ eB2), dn2, upd_same, PrsAt.app (hz2.ts tt4) (.cons (p4.ts t4) .nil), (upd_ne neSl).trans (s3 _ _ el3), hl2.ts tt4, hfF.up G rt lt (fun s h => h.imp id fun z => List.mem_append_left _ z) (fun s h => ?_) (fun _ => .inr (List.mem_append_right _ (List.mem_singleton.mpr rfl))), fun s hs => ?_, upF2, by rw [List.length_append]; show ns.length + 1 + _ ≤ _; omega⟩
            · rcases h with h | h
              · exact .inl (.inl h)
              · rcases List.mem_append.mp h with h | h
                · exact .inl (.inr h)
                · exact .inr (List.mem_singleton.mp h)
            · rcases List.mem_append.mp hs with h | h
              · exact cns s h
              · rw [List.mem_singleton.mp h]
                exact zc
        · rw [decide_eq_false lt]
          refine iteF ⟨b', kvs', zs, ns, _, _, rfl, sF, eBF, dnF, eSF, hz, elF, hlF, hfF, cns, fun u hu => ?_, wF⟩
          rw [tk] at hu
          rcases List.mem_append.mp hu with h | h
          · exact upF u h
          · rw [List.mem_singleton.mp h]
            omega
      · rintro σ F ⟨b', kvs', zs, ns, y2, y6, rfl, sF, eBF, dnF, eSF, hz, elF, hlF, hfF, cns, upF, wF⟩
        rw [lls, List.take_length] at upF
        have wfew := wB_few G low
        refine ⟨wB g b' + (if ns = [] then 0 else 1), ?_, b', kvs', S2, zs, ns, _, _, _, rfl, rfl, sF, eBF, dnF, eSF, hz, hfF.drop (fun s h => .inr h) (fun s h c => h.elim (fun k => .inl fun t ht => upF t (List.mem_flatMap.mpr ⟨s, k, ht⟩)) .inr), cns, by omega⟩
        by_cases e : ns = []
        · rw [if_pos e]
          subst e
          have : 0 + wB g b' ≤ wB g b := wF
          omega
        · rw [if_neg e]
          have := List.length_pos_iff.mpr e
          omega
end
end Kn


namespace Kn
open PySem PySem.Spec PyProof.Rows L2
theorem walk_zipT {K : PySem.W.Frag} {a b : Addr} {xs ys : List V} (hl : xs.length = ys.length) : Walk (RZ.ItzT K a b) xs.length (fun H => SqT K H a xs ∧ SqT K H b ys) (YPair (fun i => xs[i]?) (fun i => ys[i]?)) where
  goes := fun i _ lt h => ⟨xs, ys, xs[i]'lt, ys[i]'(hl ▸ lt), h.1, h.2, List.getElem?_eq_getElem lt, List.getElem?_eq_getElem _⟩
  stops := fun _ h => ⟨xs, ys, h.1, h.2, .inl (Nat.le_refl _)⟩
  yields := fun _ _ _ _ _ h z => match z with
    | ⟨T, x, y, e1, e2, e3, e4, e5⟩ => ⟨T, x, y, e1, e2, e3, e4 xs h.1, e5 ys h.2⟩
section
variable {P : Program} {w : World} {K : PySem.W.Frag} {mg : Str → Option Value} {base : Heap}
theorem ok_no2 {f fB fN D0 : Addr} {fd fdB fdN : FuncData} (F : Fun K "near_of" "near_of" (topS 20) f fd)
    (Bm : Def K mg "best_marks" 19 ["web", "marks"] fB fdB) (OB : FnOk P w K mg base (L2.CX P w) 4 fB fdB ["web", "marks"] (spBm K D0 outB))
    (N : Def K mg "names_of" 8 ["web"] fN fdN) (ON : FnOk P w K mg base CX0 1 fN fdN ["web"] (spNo K)) (mzi : mg "zip" = none) (mt : mg "tuple" = none) :
    FnOk P w K mg base (L2.CX P w) 5 f fd ["web", "marks"] (spBm K D0 outR) := by
  refine F.okX scNo2 (fun vs H Q E h => ?_) (fun cdv A outer s H vs Q E hr h => ?_)
  · obtain ⟨w0, vm, g, dm, rfl, _⟩ := h.ex
    rfl
  · obtain ⟨w0, vm, g, dm, rfl, pg, hd, qn, qy⟩ := h.ex
    refine ⟨_, (pss_cons (ps_set (i := 2) scNo2.nd rfl (.inl rfl) (pe_call OB hr (by rfl) Bm.m Bm.F.kp Bm.b .nil (passes_call (takes_of rfl rfl rfl rfl) (fun _ _ _ _ h => h)) (pa_cons (pv 0) (pa_cons (pv 1) pa_nil))))
      (pss_one (ps_ret (pe_callTy call_tuple_of (by rfl) mt (by decide +kernel) (pa_cons (pe_lc (own := [("kind", 3), ("mark", 4)]) (g := gTup K 2 (gCons (gName 3) (gCons (gName 4) gNil))) (by rfl) scNo2.nd (RZ.pi_zipA (by rfl) mzi (pa_cons (pe_call ON (hr.mono (by decide)) (by rfl) N.m N.F.kp N.b .nil pass0 (pa_cons (pv 0) pa_nil)) (pa_cons (pv 2) pa_nil))) (blkOk_by (own := [("kind", 3), ("mark", 4)]) (N := nNo2) (sc := defScope (topS 20)) (by decide +kernel)) (fun _ _ _ _ _ => (pg_tup (by rfl) (pgs_cons (pg_name (i := 3) scNo2.nd rfl (Or.inl rfl)) (pgs_cons (pg_name (i := 4) scNo2.nd rfl (Or.inl rfl)) pgs_nil)))) (fun _ _ _ _ _ => (pts_one (pt_cmpR op_ge (pv 4) pe_int (nomark _)))) (fun _ _ _ _ _ => (pv 3))) pa_nil))))), ?_⟩
    refine asg_seq ⟨w0, rfl, vm, rfl, ⟨⟨w0, vm, g, dm, rfl, pg, hd, qn, fun p e p0 => ?_⟩⟩⟩
    obtain ⟨G, p6, qy⟩ := qy p e p0
    have few := G.few
    refine ⟨G, p6, fun q b H1 s1 best e1 => ?_⟩
    dsimp only [gName, List.set]
    refine ⟨w0, rfl, w0, g, rfl, pg.same s1, by omega, fun pn H2 s2 e2 => ⟨.ref q, rfl, pn, q, _, _, rfl, .inr ⟨.inl (.inl e2), .inl (.inl (s2 _ _ e1)), fun D nD => ?_⟩⟩⟩
    have hl : ((namesG g).map V.str).length = (outB g b).length := by
      unfold outB
      generalize namesG g = l
      rw [List.length_map, List.length_map]
    refine lc_it (walk_zipT (K := K) (a := pn) (b := q) hl) (fun i J => Same H2 J ∧ J D = some (.lst ((((namesG g).take i).filter fun n => decide (0 ≤ b n)).map V.str))) ⟨same_new nD, upd_same⟩ (fun i J _ h => ⟨.inl (.inl (h.1 _ _ e2)), .inl (.inl (h.1 _ _ (s2 _ _ e1)))⟩) ?_ ?_
    · rintro i x J J0 hi ⟨sm, eD⟩ ⟨T, x1, x2, rfl, nT, rfl, hx1, hx2⟩
      obtain ⟨n, hn, rfl⟩ := map_get hx1
      obtain ⟨n', hn', rfl⟩ := map_get hx2
      obtain rfl : n = n' := Option.some.inj (hn.symm.trans hn')
      have sT := same_new (o := .tup [V.str n, V.int (b n)]) nT
      have tk : (namesG g).take (i + 1) = (namesG g).take i ++ [n] := by rw [List.take_add_one, hn]; rfl
      refine ⟨T, _, rfl, .inl (.inl upd_same), rfl, _, _, rfl, _, _, rfl, rfl, rfl, ?_⟩
      refine ⟨.int (b n), rfl, b n, 0, rfl, rfl, _, rfl, ?_⟩
      have ft : ((namesG g).take (i + 1)).filter (fun n => decide (0 ≤ b n)) = ((namesG g).take i).filter (fun n => decide (0 ≤ b n)) ++ (if 0 ≤ b n then [n] else []) := by
        rw [tk, List.filter_append]
        by_cases z : 0 ≤ b n <;> simp [z]
      rw [ft]
      by_cases z : 0 ≤ b n
      · rw [decide_eq_true z, if_pos z]
        have lf := List.length_filter_le (fun n => decide (0 ≤ b n)) ((namesG g).take i)
        have l4 : (namesG g).length ≤ 4 := by rw [List.length_map]; exact few
        have lt2 : ((namesG g).take i).length ≤ (namesG g).length := List.length_take_le' ..
        refine iteT ⟨.str n, rfl, _, sT _ _ eD, small' (by rw [List.length_map]; omega), putS (sm.trans sT) nD, ?_⟩
        rw [upd_same, List.map_append]
        rfl
      · rw [decide_eq_false z, if_neg z, List.append_nil]
        exact iteF ⟨sm.trans sT, sT _ _ eD⟩
    · rintro J ⟨sm, eD⟩
      rw [List.length_map, List.take_length] at eD
      exact ⟨D, _, rfl, .inl ⟨.inl (.inl eD), fun t nt => qy t b _ (((s1.trans s2).trans sm).trans (same_new nt)) best upd_same⟩⟩
end
end Kn


/-! Kn: parts of tuples of data, and two of them together; parts of texts. -/
namespace Kn
open PySem PySem.Spec PyProof.Rows L2
section
variable {K : PySem.W.Frag} {H : Hp} {Q : VK} {r r2 : V} {ds es : List PyData}
theorem slA_any {lo hi : Option Int} (h : Dp K H r (.tuple ds))
    (q : ∀ (r' : V) (H' : Hp), Same H H' → Dp K H' r' (.tuple ((ds.drop (HT.sIx ds.length 0 lo)).take (HT.sIx ds.length ds.length hi - HT.sIx ds.length 0 lo))) → Q r' H') : rSlA K r lo hi H Q := by
  cases h with
  | tup ht hd =>
    rename_i a xs
    have l := dsLen hd
    refine ⟨a, xs, rfl, ht, fun w => ?_, fun _ p np => ?_⟩
    · rw [l] at w
      refine q _ H (Same.refl H) ?_
      rw [w.1, w.2, List.drop_zero, Nat.sub_zero, List.take_length]
      exact .tup ht hd
    · have s := same_new (o := .tup (cutV xs lo hi)) np
      refine q _ _ s (.tup (.inl (.inl upd_same)) ?_)
      unfold cutV
      rw [l]
      exact dsKeep (same_new np) (dsTake _ (dsDrop _ hd))
theorem slA_take {k : Nat} (h : Dp K H r (.tuple ds)) (hk : k ≤ ds.length) (q : ∀ (r' : V) (H' : Hp), Same H H' → Dp K H' r' (.tuple (ds.take k)) → Q r' H') : rSlA K r none (some (k : Int)) H Q :=
  slA_any h fun r' H' s d => q r' H' s (by
    rw [HT.sIx_none, HT.sIx_nat, Nat.min_eq_left hk, List.drop_zero, Nat.sub_zero] at d
    exact d)
theorem slA_drop {k : Nat} (h : Dp K H r (.tuple ds)) (q : ∀ (r' : V) (H' : Hp), Same H H' → Dp K H' r' (.tuple (ds.drop k)) → Q r' H') : rSlA K r (some (k : Int)) none H Q :=
  slA_any h fun r' H' s d => q r' H' s (by
    rw [HT.sIx_none, HT.sIx_nat, List.take_of_length_le (by rw [List.length_drop]; exact Nat.le_refl _)] at d
    by_cases l : k ≤ ds.length
    · rw [Nat.min_eq_left l] at d
      exact d
    · rw [Nat.min_eq_right (by omega), List.drop_of_length_le (Nat.le_refl _)] at d
      rw [List.drop_of_length_le (by omega)]
      exact d)
theorem slA_mid {i j : Nat} (h : Dp K H r (.tuple ds)) (q : ∀ (r' : V) (H' : Hp), Same H H' → Dp K H' r' (.tuple ((ds.drop (min i ds.length)).take (min j ds.length - min i ds.length))) → Q r' H') : rSlA K r (some (i : Int)) (some (j : Int)) H Q :=
  slA_any h fun r' H' s d => q r' H' s (by
    rw [HT.sIx_nat, HT.sIx_nat] at d
    exact d)
theorem catA (h : Dp K H r (.tuple ds)) (k : Dp K H r2 (.tuple es)) (few : ds.length + es.length ≤ 1000) (q : ∀ (r' : V) (H' : Hp), Same H H' → Dp K H' r' (.tuple (ds ++ es)) → Q r' H') : rCatA K r r2 H Q := by
  cases h with
  | tup h1 h2 =>
    rename_i a xs
    cases k with
    | tup k1 k2 =>
      rename_i b ys
      refine ⟨a, b, xs, ys, rfl, rfl, h1, k1, by rw [dsLen h2, dsLen k2]; exact Nat.le_trans few (by decide), fun e => ?_, fun _ e => ?_, fun _ _ p np => ?_⟩
      · subst e
        cases h2
        exact q _ H (Same.refl H) (.tup k1 k2)
      · subst e
        cases k2
        rw [List.append_nil] at q
        exact q _ H (Same.refl H) (.tup h1 h2)
      · have s := same_new (o := .tup (xs ++ ys)) np
        exact q _ _ s (.tup (.inl (.inl upd_same)) (dsKeep s (dsApp h2 k2)))
end
/-! ### texts -/
def asciiB (x : Str) : Bool := x.cps.toList.all fun c => decide (c < 128)
theorem ascii_cut {z : Str} (h : asciiB z = true) (lo hi : Option Int) : asciiB (cutS z lo hi) = true := by
  refine List.all_eq_true.mpr fun c hc => ?_
  have hc : c ∈ ((z.cps.toList.drop (HT.sIx z.length 0 lo)).take (HT.sIx z.length z.length hi - HT.sIx z.length 0 lo)).toArray.toList := hc
  exact List.all_eq_true.mp h c (List.mem_of_mem_drop (List.mem_of_mem_take hc))
theorem ascii_app {x y : Str} (h : asciiB x = true) (k : asciiB y = true) : asciiB (x ++ y) = true := by
  unfold asciiB at *
  rw [Str.cps_append, Array.toList_append, List.all_append, h, k]
  rfl
theorem slen_app (x y : Str) : (x ++ y).length = x.length + y.length := by
  show (x ++ y).cps.size = x.cps.size + y.cps.size
  rw [Str.cps_append, Array.size_append]
end Kn


namespace Kn
open PySem PySem.Spec PyProof.Rows L2
/-! ### sum of a tuple of numbers -/
section
variable {prog : Program} {w : World} {A : Around} {E : Value → Shared → Prop} {s : Shared} {l : Addr} {xs : Array (Int × Tok)}
theorem iter_intTup {Q : Value → Shared → Prop} (hl : s.heap.IsTuple l (intItems xs))
    (h : ∀ s₂ : Shared, s₂ = { s with heap := s.heap.push { cls := .type "tuple_iterator", data := .fields #[.ref l, .int 0 0] } } →
      (s₂.heap.IsTupleIter s.heap.objs.size l 0 ∧ s₂.heap.IsTuple l (intItems xs)) → (∀ b ∈ [s.heap.objs.size, l], b < s₂.heap.objs.size) → l ≠ s.heap.objs.size → Q (.ref s.heap.objs.size) s₂) :
    wpAny (model prog w) A (pyIter (.ref l)) Q E s := by
  have hlt : l < s.heap.objs.size := by obtain ⟨_, e, _⟩ := hl; exact Heap.lt_size e
  refine wpAny_pyIter_tuple hl (h _ rfl ⟨⟨_, Heap.get?_push_size _ rfl, rfl, rfl⟩, hl.push _⟩ (fun b hb => ?_) (Nat.ne_of_lt hlt))
  show b < (s.heap.push _).objs.size
  rw [Heap.size_push]
  rcases List.mem_cons.mp hb with rfl | hb
  · exact Nat.lt_succ_self _
  · rcases List.mem_cons.mp hb with rfl | hb
    · exact Nat.lt_succ_of_lt hlt
    · cases hb
theorem old_keptT {h' : Heap} (hk : ∀ b o, b ∉ [s.heap.objs.size] → (s.heap.push { cls := .type "tuple_iterator", data := .fields #[.ref l, .int 0 0] }).get? b = some o → h'.get? b = some o) :
    ∀ b o, s.heap.get? b = some o → h'.get? b = some o := fun b o e => by
  refine hk b o (fun hm => ?_) (Heap.get?_push_of_some _ e)
  rcases List.mem_cons.mp hm with e1 | hm
  · exact absurd (e1 ▸ Heap.lt_size e) (Nat.lt_irrefl _)
  · cases hm
theorem sum_tupG {Q : Value → Shared → Prop} (hh : A.handled = none) (hl : s.heap.IsTuple l (intItems xs))
    (h : ∀ h' tk t', (∀ b o, s.heap.get? b = some o → h'.get? b = some o) → Q (.int (preSum (numAt xs) xs.size) t') { s with heap := h', toks := tk }) :
    wpAny (model prog w) A (call (.builtin "sum") [.ref l]) Q E s := by
  refine call_sum_walkG (iter_intTup hl fun s₂ e st hfp hlI => ?_)
  subst e
  refine ⟨_, _, _, _, _, _, numAt xs, rfl, Walks.tuple (A := A.in1) hh _ l hlI (intItems xs), st, hfp, (fun _ _ => intItems_at), fun h' tk t' hk => ?_⟩
  have := h h' tk t' (old_keptT hk)
  simpa [intItems] using this
theorem sum_rawT {its : List Value} {ns : List Int} {Q : Value → Shared → Prop} (hh : A.handled = none) (hl : s.heap.IsTuple l its.toArray) (hi : IntsAre its ns)
    (h : ∀ h' tk t', (∀ b o, s.heap.get? b = some o → h'.get? b = some o) → Q (.int ns.sum t') { s with heap := h', toks := tk }) : wpAny (model prog w) A (call (.builtin "sum") [.ref l]) Q E s := by
  obtain ⟨xs, e⟩ := hi.allInts.items
  have hn : numsOf (intItems xs).toList = ns := by rw [← e]; exact hi.numsOf
  rw [nums_intItems] at hn
  rw [e] at hl
  refine sum_tupG hh hl fun h' tk t' hk => ?_
  have := h h' tk t' hk
  rw [preSum_eq, List.take_of_length_le (by simp), hn]; exact this
end
def rSumT (K : PySem.W.Frag) : List V → Hp → VK → Prop := fun vs H Q => ∃ (a : Addr) (ns : List Int), vs = [V.ref a] ∧ SqT K H a (ns.map V.int) ∧ Q (.int ns.sum) H
section
variable {X : Cx}
theorem cr_sumT (hc : X.calm = true) : CallR X (.builtin "sum") (rSumT X.K) := by
  intro pins s σ H vs us Q I r h
  obtain ⟨a, ns, rfl, hs, q⟩ := h
  obtain ⟨its, rv, hl, _⟩ := I.tuple hs
  rw [Vals.ref1 r]
  exact sum_rawT (I.ok.hd hc) hl rv.ints fun h' tk t' hk => ⟨.int _, H, I.kept hk, ⟨_, rfl⟩, q⟩
/-! ### tuple * n, n from 1 on -/
theorem tuple_mulW1 (l : Addr) (items : Array Value) (n : Nat) (dd : Option Addr) (sl : Array (Option Value)) (u : Tok) :
    Meets (Builtin.«tuple.__mul__» ⟨[.ref l, .int 1 u], []⟩) (fun _ R s => s.heap.get? l = some { cls := .type "tuple", dict := dd, data := .seq items n, slots := sl } ∧ R (.ok (.ret (Value.ref l))) s) :=
  .of_wp fun prog w A R s h => by
    obtain ⟨hp, g, d, tk, os⟩ := s
    obtain ⟨hl, h⟩ := h
    have f1 := AutoSeq1.idx_int
    wp_walk using wpAny_loadPart' hl
    all_goals exact ⟨_, rfl, h⟩
def rMulT (K : PySem.W.Frag) : R2 := fun x y H Q => ∃ l k xs, x = .ref l ∧ y = .int k ∧ SqT K H l xs ∧ xs ≠ [] ∧ 1 ≤ k ∧ k ≤ 1000 ∧ xs.length ≤ 1000 ∧ (k = 1 → Q (.ref l) H) ∧ ∀ p, H p = none → Q (.ref p) (upd H p (.tup (List.replicate k.toNat xs).flatten))
theorem op_mulT : OpR X (binaryOp .Mult) (rMulT X.K) := by
  intro pins s σ H x y v u Q I rx ry h
  obtain ⟨l, k, xs, rfl, rfl, hT, hne, h1, h2, hz, q1, q⟩ := h
  by_cases k1 : k = 1
  · subst k1
    cases rx
    obtain ⟨t, rfl⟩ := ry
    obtain ⟨its, r, ⟨⟨cls, dd, data, sl⟩, ho, hc, n, hd⟩, hs⟩ := I.tuple hT
    simp only at hc hd
    subst hc hd
    refine wpAny_binaryOp_repeat_ref (T := "tuple") (U := "int") (by decide) ⟨_, ho, rfl⟩ (fun s' => typeIs_int s' 1 t) noFill_tuple_mul F.fills_int_mul F.slot_int_rmul repeat_tuple F.slot_int_index.lookup
      (call_meets F.slot_int_rmul (typeIs_int s 1 t) F.entry_int_rmul (F.args_int_rmul_2 _ _) (int_rmul_tuple 1 t l its.toArray n dd sl)
        ⟨ho, rfl, ⟨_, ho, rfl⟩, call_meets F.slot_tuple_mul ⟨_, ho, rfl⟩ F.entry_tuple_mul (F.args_tuple_mul_2 _ _) (tuple_mulW1 l its.toArray n dd sl t) ⟨ho, ?_⟩⟩)
    exact ⟨.ref l, H, I, rfl, q1 rfl⟩
  · exact op_repT pins s σ H _ _ v u Q I rx ry ⟨l, k, xs, rfl, rfl, hT, hne, by omega, h2, hz, q⟩
/-! ### tuple(list), the new object known -/
def rTupF (K : PySem.W.Frag) : List V → Hp → VK → Prop := fun xs H Q => ∃ p ys, xs = [.ref p] ∧ SqL K H p ys ∧ ∀ l o, H l = none → o.cls = .type "tuple" → o.dict = none → Q (.ref l) (upd H l (.frz o (.tup ys)))
theorem call_tupleF : CallR X (.type "tuple") (rTupF X.K) := by
  intro pins s σ H xs us Q I r h
  obtain ⟨p, ys, rfl, hq, q⟩ := h
  obtain ⟨u, rfl, rx⟩ := vals1 r
  cases rx
  obtain ⟨its, r', pl, hz⟩ := I.list hq
  have hlen := r'.length
  refine call_tuple_list pl.isList (fun h' kp => ?_) (by simp only [List.size_toArray] <;> omega)
  have I1 : Inv X pins σ H { s with heap := h' } := I.kept (t' := s.toks) kp
  have I2 : Inv X pins σ (upd H h'.objs.size (.frz { cls := .type "tuple", data := .seq its.toArray } (.tup ys))) { s with heap := h'.push { cls := .type "tuple", data := .seq its.toArray } } :=
    I1.laid (t' := s.toks) (fun b o e => Heap.get?_push_of_some _ e) (Nat.le_refl _) (show ObjOk X.prog X.w _ _ _ (.frz _ (.tup ys)) from ⟨Heap.get?_push_size _ rfl, hz, its, r', IsTup.new _ _⟩)
  exact ⟨.ref h'.objs.size, _, I2, rfl, q _ _ (I1.hok.fresh (Nat.le_refl _)) rfl rfl⟩
/-! ### t.index(x), t a tuple whose object is known -/
def tTIdx (K : PySem.W.Frag) (to : TE) (t : TA) : TE := fun σ H Q => to σ H fun x H1 => ∃ p o ys, x = .ref p ∧ H1 p = some (.frz o (.tup ys)) ∧ o.cls = .type "tuple" ∧ o.dict = none ∧
  t σ H1 fun xs H2 => ∃ (zs : List Str) (z : Str) (j : Nat), xs = [.str z] ∧ SqT K H2 p (zs.map V.str) ∧ zs[j]? = some z ∧ (∀ m, m < j → zs[m]? ≠ some z) ∧ Q (.int (j : Nat)) H2
variable {o e : Expr} {es : List Expr} {to : TE} {t : TA} {apos cpos : Pos}
theorem pe_tidx (ho : PE X o to) (ha : PA X (e :: es) t)
    (hbase : attributeBase o "index" X.env (eval o X.env) = eval o X.env := by rfl)
    (hfew : ((backTo cpos (starEach (e :: es) X.env)).all (fun x => !x.1) && (backToKw cpos (keywordEach [] X.env)).all (fun x => x.1.isSome)
      && decide ((e :: es).length + ([] : List Keyword).length + (if ([] : List Keyword).isEmpty then 0 else 1) < 30)) = true := by rfl)
    (hline : (apos.endLine == cpos.line) = true := by rfl) (hs : starEach (e :: es) X.env = (false, eval e X.env) :: starEach es X.env := by rfl) (hplain : (backTo cpos (starEach es X.env)).any (·.1) = false := by rfl) :
    PE X (.Call (.Attribute o "index" apos) (e :: es) [] cpos) (tTIdx X.K to t) := by
  refine ⟨fun pins s σ H Q I h => ?_⟩
  refine wpAny_Call_method_late hbase hfew hline rfl (thn (ho.run pins s σ H _ I h) fun v s1 ⟨x, H1, I1, r1, q1⟩ => ?_)
  obtain ⟨p, ob, ys, rfl, hp, hc, hd, q1⟩ := q1
  have hb : s1.heap.get? p = some ob := (I1.hok p _ hp).1
  cases r1
  refine ⟨"tuple", "tuple.index", PySem.F.plainAttrs_tuple, PySem.F.slot_tuple_index, PySem.F.type_tuple_index, ⟨ob, hb, hc⟩, fun a e => ?_, ?_⟩
  · cases e
    exact ⟨ob, hb, hd⟩
  have hA := ha.run cpos pins s1 σ H1 _ I1 q1
  rw [hs] at hA ⊢
  refine Calls.callWith_builtin (by show (false || (backTo cpos (starEach es X.env)).any (·.1)) = false; rw [hplain] <;> rfl) (Calls.evalArgs_plain ?_)
  exact thn hA fun us s2 ⟨vs, H2, I2, r2, zs, z, j, e1, e2, e3, e4, q2⟩ => mt_tup_index pins s2 σ H2 (.ref p) vs (.ref p) us Q I2 rfl r2 ⟨p, zs, z, j, rfl, e1, e2, e3, e4, q2⟩
end
end Kn


namespace Kn
open PySem PySem.Spec PyProof.Rows L2
/-! ### f(k = v, ..): keywords alone, in any order -/
def tCallK (m : Nat) (sp : Sp) (gV : List V → List V → List V) (E : XK) (tk : TA) : TE := fun σ H Q => tk σ H fun zs H2 => zs.length = m ∧ sp (gV [] zs) H2 Q E
section
variable {X : Cx} {CX : CXT} {k : Nat} {f : Addr} {fd : FuncData} {ps ks : List Str} {sp : Sp} {E : XK} {x : Str} {p pos : Pos} {kws : List Keyword} {tk : TA} {g : List Value → List Value → List Value} {gV : List V → List V → List V}
theorem pe_callK (F : FnOk X.prog X.w X.K X.mg X.base CX k f fd ps sp) (hr : Room k X.A) (hg : Gl X x) (hm : X.mg x = some (.ref f)) (hk : PySem.W.keepIn X.K (.ref f) = true) (hb : KBn X.K fd ps 0 ks g gV) (hx : Passes CX X E)
    (hkw : PK X kws tk) (hall : (backToKw pos (keywordEach kws X.env)).all (·.1.isSome) = true := by rfl) (hks : (backToKw pos (keywordEach kws X.env)).filterMap (·.1) = ks := by rfl)
    (hdb : (x == ("__debug__" : Str)) = false := by decide)
    (hpl : ((backTo pos (starEach [] X.env)).any (·.1) || (backToKw pos (keywordEach kws X.env)).any (·.1.isNone)) = false := by rfl) :
    PE X (.Call (.Name x p) [] kws pos) (tCallK ks.length sp gV E tk) := by
  refine ⟨fun pins s σ H Q I h => ?_⟩
  refine wpAny_Call_Name_kw (ld_glob I hg hm ?_ hdb)
  refine PySem.W.callWith_KW0 (h₀ := X.base) I.ok.mod.kin hk hall (thn (hkw.run pos pins s σ H _ I h) fun ws s2 ⟨zs, H2, I2, rz, l2, q2⟩ => ⟨I2.kIn, ?_⟩) hpl
  rw [hks]
  exact run_fnN F hr hb hx I2 .nil rz rfl l2 q2
end
end Kn


namespace Kn
open PySem PySem.Spec PyProof.Rows L2
/-! ### repr of any data -/
def rShowV (K : PySem.W.Frag) : List V → Hp → VK → Prop := fun xs H Q => ∃ (v : V) (d : PyData), xs = [v] ∧ Dp K H v d ∧ d.showable = true ∧ d.hasDict = false ∧ d.depth ≤ 20 ∧ d.shown.length ≤ sizeLine ∧ Q (.str d.shown) H
theorem call_showV {X : Cx} (hq : X.A.guards = some []) (hu : X.A.units + 64 < cLine) : CallR X (.builtin "repr") (rShowV X.K) := by
  rintro pins s σ H xs us Q I rv ⟨v, d, rfl, hd, h1, h2, h3, h4, q⟩
  cases hd with
  | non =>
    obtain ⟨u, rfl, rfl⟩ := vals1 rv
    exact PySem.P.repr_of_none ⟨.str _, H, I.tok _, ⟨_, rfl⟩, q⟩
  | bl b =>
    obtain ⟨u, rfl, rfl⟩ := vals1 rv
    refine PySem.P.repr_of_bool ⟨.str (PyData.bool b).shown, H, I.tok _, ⟨s.toks, ?_⟩, q⟩
    cases b <;> rfl
  | int i =>
    obtain ⟨u, rfl, t, rfl⟩ := vals1 rv
    exact PySem.P.repr_of_int (of_decide_eq_true h1) ⟨.str _, H, I.tok _, ⟨_, rfl⟩, q⟩
  | str x =>
    obtain ⟨u, rfl, t, rfl⟩ := vals1 rv
    exact PySem.P.repr_of_str ⟨.str _, H, I.tok _, ⟨_, rfl⟩, q⟩ h4
  | lst a b => exact call_show hq hu pins s σ H _ us Q I rv ⟨_, _, rfl, .lst a b, h1, h2, h3, h4, q⟩
  | tup a b => exact call_show hq hu pins s σ H _ us Q I rv ⟨_, _, rfl, .tup a b, h1, h2, h3, h4, q⟩
end Kn


namespace Kn
open PySem PySem.Spec PyProof.Rows L2
theorem int_good {m : Int} (b : m.natAbs < 1000) : goodD (.int m) = true := decide_eq_true (Nat.lt_of_lt_of_le b (by decide))
theorem name_len {x : Str} (h : nameB (.str x) = true) : x.length ≤ 8 := by
  have h : (decide (1 ≤ x.length) && decide (x.length ≤ 8) && lowB x) = true := h
  rw [Bool.and_eq_true, Bool.and_eq_true] at h
  exact of_decide_eq_true h.1.2
def dWeb (g : Pg) : PyData := .tuple [.tuple (g.es.map dEnt), .str g.asks]
theorem ents_dp {K : PySem.W.Frag} {H : Hp} : ∀ {vs : List V} {es : List Ent}, EntsAt K H vs es → DpAll K H vs (es.map dEnt)
  | _, _, .nil => .nil
  | _, _, .cons a b => .cons a.dp (ents_dp b)
theorem PgAt.dp {K : PySem.W.Frag} {H : Hp} {v : V} {g : Pg} : PgAt K H v g → Dp K H v (dWeb g) := fun ⟨_, _, _, a, b, c, d⟩ => a ▸ .tup b (.cons (.tup c (ents_dp d)) (.cons (.str _) .nil))
theorem strs_good {ts : List Str} (h : ∀ x ∈ ts, nameB (.str x) = true) : goodDs (ts.map PyData.str) = true ∧ nodesDs (ts.map PyData.str) ≤ 9 * ts.length := by
  induction ts with
  | nil => exact ⟨rfl, Nat.le_refl _⟩
  | cons t r ih =>
    obtain ⟨a, b⟩ := ih fun x hx => h x (List.mem_cons_of_mem _ hx)
    have z := h t (List.mem_cons_self ..)
    have l := name_len z
    refine ⟨?_, ?_⟩
    · show (goodD (.str t) && goodDs (r.map PyData.str)) = true
      rw [name_ascii z, a]
      rfl
    · show (1 + t.length) + nodesDs (r.map PyData.str) ≤ 9 * (r.length + 1)
      omega
theorem ents_good {es : List Ent} (h : ∀ e ∈ es, nameB (.str e.name) = true ∧ (1 ≤ e.fee ∧ e.fee ≤ 9) ∧ e.row.length ≤ 5 ∧ ∀ x ∈ e.row, nameB (.str x) = true) : goodDs (es.map dEnt) = true ∧ nodesDs (es.map dEnt) ≤ 60 * es.length ∧ PyData.depthAll (es.map dEnt) ≤ 8 := by
  induction es with
  | nil => exact ⟨rfl, Nat.le_refl _, Nat.zero_le _⟩
  | cons e r ih =>
    obtain ⟨a, b, c⟩ := ih fun x hx => h x (List.mem_cons_of_mem _ hx)
    obtain ⟨n, f, l5, rw_⟩ := h e (List.mem_cons_self ..)
    obtain ⟨rg, rn⟩ := strs_good rw_
    have l := name_len n
    refine ⟨?_, ?_, ?_⟩
    · show ((goodD (.str e.name) && (goodD (.int e.fee) && (true && (goodDs (e.row.map PyData.str) && true)))) && goodDs (r.map dEnt)) = true
      rw [name_ascii n, int_good (by omega), rg, a]
      rfl
    · show (1 + ((1 + e.name.length) + (1 + (1 + ((1 + nodesDs (e.row.map PyData.str)) + 0))))) + nodesDs (r.map dEnt) ≤ 60 * (r.length + 1)
      omega
    · show max (dEnt e).depth (PyData.depthAll (r.map dEnt)) ≤ 8
      have := ent_deep e
      omega
theorem web_show {g : Pg} (G : GW g) : (dWeb g).showable = true ∧ (dWeb g).hasDict = false ∧ (dWeb g).depth ≤ 20 ∧ (dWeb g).shown.length ≤ sizeLine := by
  have inNm : ∀ s, s ∈ g.es.map (·.name) → nameB (.str s) = true := fun s hs => by
    obtain ⟨e, he, rfl⟩ := List.mem_map.mp hs
    exact G.nm e he
  obtain ⟨a, b, c⟩ := ents_good (es := g.es) fun e he => ⟨G.nm e he, G.fee e he, G.rows e he, fun x hx => inNm x (G.tab e he x hx)⟩
  have an := inNm _ G.asks
  have al := name_len an
  have few := G.few
  have gd : goodD (dWeb g) = true := by
    show (goodDs (g.es.map dEnt) && (goodD (.str g.asks) && true)) = true
    rw [a, name_ascii an]
    rfl
  have nd : nodesD (dWeb g) = 1 + ((1 + nodesDs (g.es.map dEnt)) + ((1 + g.asks.length) + 0)) := rfl
  obtain ⟨s1, s2, s3⟩ := good_shown _ gd
  refine ⟨s1, s2, ?_, Nat.le_trans (show (dWeb g).shown.length ≤ 100000 by omega) (by decide)⟩
  have z : (dWeb g).depth = max (PyData.depthAll (g.es.map dEnt) + 1) (max 0 0) + 1 := rfl
  omega
end Kn


/-! Kn: dicts whose keys are nested tuples of whole numbers and texts. -/
namespace Kn
open PySem PySem.Spec PyProof.Rows L2
abbrev NRow := (NestedKey × V) × Addr
abbrev NPair (p : NRow) (q : NestedKey × Addr × Value) : Prop := p.1.1 = q.1 ∧ p.2 = q.2.1 ∧ RelV p.1.2 q.2.2
def NdHeap (P : Program) (w : World) (a : Addr) (rows : List NRow) (h : Heap) : Prop :=
  rows.length ≤ sizeLine ∧ (a == sysModules) = false ∧ ∃ xs : List (NestedKey × Addr × Value), Paired NPair rows xs ∧
    ∃ o es ep, h.get? a = some o ∧ o.ExactDict ∧ o.data = .dict es ep ∧ es.toList = xs.map (entryOfKey (nestedKind P w)) ∧ (xs.map (·.1)).Nodup
abbrev ndO (P : Program) (w : World) (a : Addr) (rows : List NRow) : HO := .ext (NdHeap P w a rows)
/-- the tuple at b is this key -/
def NKeyAt (K : PySem.W.Frag) (H : Hp) (b : Addr) (k : NestedKey) : Prop := Dp K H (.ref b) k.data ∧ k.depth ≤ 8
/-- at a there is a dict of these keys and values -/
def NdAt (P : Program) (w : World) (K : PySem.W.Frag) (H : Hp) (a : Addr) (kvs : List (NestedKey × V)) : Prop :=
  ∃ as : List Addr, H a = some (ndO P w a (kvs.zip as)) ∧ Paired (fun (p : NestedKey × V) b => NKeyAt K H b p.1) kvs as
section
variable {P : Program} {w : World} {K : PySem.W.Frag} {H H' : Hp} {a b : Addr} {k : NestedKey} {kvs : List (NestedKey × V)}
theorem ndO_ok {h : Heap} {rows : List NRow} (n : NdHeap P w a rows h) : ObjOk P w H h a (ndO P w a rows) := by
  obtain ⟨z, d, xs, r, o, es, ep, e, c⟩ := id n
  refine ⟨n, ⟨o, e⟩, fun h1 h2 n1 keep => ?_⟩
  obtain ⟨z, d, xs, r, o, es, ep, e, c⟩ := n1
  exact ⟨z, d, xs, r, o, es, ep, keep _ e, c⟩
mutual
theorem key_dp (t : ∀ p xs, SqT K H p xs → SqT K H' p xs) : ∀ (k : NestedKey) (v : V), Dp K H v k.data → Dp K H' v k.data
  | .none, _, h => by
    cases h
    exact .non
  | .num i, _, h => by
    cases h
    exact .int i
  | .text x, _, h => by
    cases h
    exact .str x
  | .tup ks, _, h => by
    cases h with
    | tup hs ha => exact .tup (t _ _ hs) (key_dps t ks _ ha)
theorem key_dps (t : ∀ p xs, SqT K H p xs → SqT K H' p xs) : ∀ (ks : List NestedKey) (vs : List V), DpAll K H vs (NestedKey.datas ks) → DpAll K H' vs (NestedKey.datas ks)
  | [], _, h => by
    cases h
    exact .nil
  | k :: ks, _, h => by
    cases h with
    | cons h1 h2 => exact .cons (key_dp t k _ h1) (key_dps t ks _ h2)
end
theorem NKeyAt.keep (t : ∀ p xs, SqT K H p xs → SqT K H' p xs) (h : NKeyAt K H b k) : NKeyAt K H' b k := ⟨key_dp t k _ h.1, h.2⟩
theorem sqT_keep {H H' : Hp} (t : ∀ b o, b ≠ a → H b = some o → H' b = some o) (nt : ∀ xs, H a ≠ some (.tup xs)) (nf : ∀ o xs, H a ≠ some (.frz o (.tup xs))) {p : Addr} {xs : List V} (h : SqT K H p xs) : SqT K H' p xs := by
  rcases h with (h | ⟨o, h⟩) | h
  · exact .inl (.inl (t _ _ (fun e => nt xs (e ▸ h)) h))
  · exact .inl (.inr ⟨o, t _ _ (fun e => nf o xs (e ▸ h)) h⟩)
  · exact .inr h
theorem NdAt.keepAt (n : NdAt P w K H a kvs) (e : ∀ o, H a = some o → H' a = some o) (t : ∀ p xs, SqT K H p xs → SqT K H' p xs) : NdAt P w K H' a kvs := by
  obtain ⟨as, h, p⟩ := n
  exact ⟨as, e _ h, L2.Paired.mapP p fun _ _ z => z.keep t⟩
theorem NdAt.same (n : NdAt P w K H a kvs) (s : ∀ b o, H b = some o → H' b = some o) : NdAt P w K H' a kvs :=
  n.keepAt (s a) fun p xs h => by
    rcases h with (h | ⟨o, h⟩) | h
    · exact .inl (.inl (s _ _ h))
    · exact .inl (.inr ⟨o, s _ _ h⟩)
    · exact .inr h
/-- another thing changes -/
theorem NdAt.other {D : Addr} {o u : HO} (n : NdAt P w K H a kvs) (hD : H D = some u) (n1 : ∀ xs, u ≠ .tup xs) (n2 : ∀ o xs, u ≠ .frz o xs) (ne : a ≠ D) : NdAt P w K (upd H D o) a kvs :=
  n.keepAt (fun o h => by rw [upd_ne ne]; exact h) fun p xs h => sqT_keep (a := D) (fun b o nb hb => by rw [upd_ne nb]; exact hb) (fun xs z => n1 xs (Option.some.inj (hD.symm.trans z))) (fun o xs z => n2 _ _ (Option.some.inj (hD.symm.trans z))) h
theorem NdAt.sqT (n : NdAt P w K H a kvs) {o : HO} {p : Addr} {xs : List V} (h : SqT K H p xs) : SqT K (upd H a o) p xs := by
  obtain ⟨as, e, _⟩ := n
  exact sqT_keep (a := a) (fun b o nb hb => by rw [upd_ne nb]; exact hb) (fun xs z => by rw [e] at z; cases z) (fun o xs z => by rw [e] at z; cases z) h
end
section
variable {X : Cx} {pins : List (Addr × Obj)} {σ : L2.St} {H : Hp} {s : Shared} {a b : Addr} {k : NestedKey} {kvs : List (NestedKey × V)}
mutual
theorem nested_of (I : Inv X pins σ H s) : ∀ (k : NestedKey) (v : V) (u : Value), Dp X.K H v k.data → RelV v u → NestedIs s.heap k u
  | .none, _, _, h, r => by
    cases h
    cases r
    exact .none
  | .num i, _, _, h, r => by
    cases h
    obtain ⟨t, rfl⟩ := r
    exact .int i t
  | .text x, _, _, h, r => by
    cases h
    obtain ⟨t, rfl⟩ := r
    exact .text x t
  | .tup ks, _, _, h, r => by
    cases h with
    | tup hs ha =>
      cases r
      obtain ⟨its, rv, ⟨o, e, c, n, d⟩, _⟩ := I.tuple hs
      exact .tup e c d (nesteds_of I ks _ _ ha rv)
theorem nesteds_of (I : Inv X pins σ H s) : ∀ (ks : List NestedKey) (vs : List V) (us : List Value), DpAll X.K H vs (NestedKey.datas ks) → Vals vs us → NestedAll s.heap ks us
  | [], _, _, h, r => by
    cases h
    cases r
    exact .nil
  | k :: ks, _, _, h, r => by
    cases h with
    | cons h1 h2 =>
      cases r with
      | cons r1 r2 => exact .cons (nested_of I k _ _ h1 r1) (nesteds_of I ks _ _ h2 r2)
end
theorem NKeyAt.is (I : Inv X pins σ H s) (h : NKeyAt X.K H b k) : (nestedKind X.prog X.w).is s.heap k b := ⟨nested_of I k _ _ h.1 rfl, h.2⟩
theorem zip_pairs {R : NRow → NestedKey × Addr × Value → Prop} : ∀ {kvs : List (NestedKey × V)} {as : List Addr} {xs : List (NestedKey × Addr × Value)}, Paired R (kvs.zip as) xs → ∀ {G : NestedKey × V → Addr → Prop}, Paired G kvs as → ∀ x ∈ xs, ∃ p b, R (p, b) x ∧ G p b
  | [], [], _, r, _, _, x, hx => by
    cases r
    cases hx
  | p :: kvs, b :: as, _, r, G, g, x, hx => by
    cases g with
    | cons g1 g2 =>
      rw [List.zip_cons_cons] at r
      cases r with
      | cons r1 r2 =>
        rcases List.mem_cons.mp hx with rfl | hx
        · exact ⟨p, b, r1, g1⟩
        · exact zip_pairs r2 g2 x hx
  | [], _ :: _, _, _, _, g, _, _ => by cases g
  | _ :: _, [], _, _, _, g, _, _ => by cases g
theorem nd_of (I : Inv X pins σ H s) (n : NdAt X.prog X.w X.K H a kvs) : kvs.length ≤ sizeLine ∧ (a == sysModules) = false ∧ ∃ as xs, H a = some (ndO X.prog X.w a (kvs.zip as)) ∧ Paired (fun (p : NestedKey × V) b => NKeyAt X.K H b p.1) kvs as ∧
    Paired NPair (kvs.zip as) xs ∧ s.heap.DictOfH (nestedKind X.prog X.w) a xs := by
  obtain ⟨as, e, g⟩ := n
  obtain ⟨z, d, xs, r, o, es, ep, eo, c1, c2, c3, c4⟩ := (I.hok a _ e).1
  have lz : (kvs.zip as).length = kvs.length := by rw [List.length_zip, ← g.length, Nat.min_self]
  refine ⟨by omega, d, as, xs, e, g, r, o, es, ep, eo, c1, c2, c3, fun x hx => ?_, c4⟩
  obtain ⟨p, b, h1, h2⟩ := zip_pairs r g x hx
  rw [← h1.1, ← h1.2.1]
  exact h2.is I
theorem nd_val : ∀ {kvs : List (NestedKey × V)} {as : List Addr} {xs : List (NestedKey × Addr × Value)}, as.length = kvs.length → Paired NPair (kvs.zip as) xs → RelO (valV kvs k) ((atKey xs k).map (·.2))
  | [], [], _, _, r => by
    cases r
    exact True.intro
  | p :: kvs, b :: as, _, l, r => by
    rw [List.zip_cons_cons] at r
    cases r with
    | @cons _ q _ qs h t =>
      obtain ⟨h1, h2, h3⟩ := h
      by_cases e : p.1 = k
      · have e' : q.1 = k := h1.symm.trans e
        have z : atKey (q :: qs) k = some q.2 := by simp [atKey, List.find?_cons, e']
        rw [valV_pos e, z]
        exact h3
      · have e' : ¬ q.1 = k := fun z => e (h1.trans z)
        have z : atKey (q :: qs) k = atKey qs k := by simp [atKey, List.find?_cons, e']
        rw [valV_neg e, z]
        exact nd_val (by simpa using l) t
  | [], _ :: _, _, l, _ => by cases l
  | _ :: _, [], _, l, _ => by cases l
theorem nd_some (n : as.length = kvs.length) (r : Paired NPair (kvs.zip as) xs) : (valV kvs k).isSome = (atKey xs k).isSome := by
  have z := (nd_val (k := k) n r).isSome_eq
  rw [Option.isSome_map] at z
  exact z
end
section
variable {X : Cx}
def rInN (P : Program) (w : World) (K : PySem.W.Frag) (neg : Bool) : R2 := fun x y H Q => ∃ a b kvs k, x = .ref b ∧ y = .ref a ∧ NdAt P w K H a kvs ∧ NKeyAt K H b k ∧ Q (.bl ((valV kvs k).isSome != neg)) H
theorem op_inN (hu : X.A.units + 64 < cLine) : OpR X (compareOp .In) (rInN X.prog X.w X.K false) := by
  rintro pins s σ H x y v u Q I rx ry ⟨a, b, kvs, k, rfl, rfl, n, hk, q⟩
  cases rx
  cases ry
  obtain ⟨z, d, as, xs, e, g, r, dd⟩ := nd_of I n
  have ru : (nestedKind X.prog X.w).room X.A.in1 := show X.A.units + 1 + 8 < cLine by omega
  refine wpAny_in_heap ru (hk.is I) d dd ?_
  rw [← nd_some g.length.symm r]
  rw [Bool.bne_false] at q
  exact ⟨.bl _, H, I.tok _, rfl, q⟩
theorem op_notInN (hu : X.A.units + 64 < cLine) : OpR X (compareOp .NotIn) (rInN X.prog X.w X.K true) := by
  rintro pins s σ H x y v u Q I rx ry ⟨a, b, kvs, k, rfl, rfl, n, hk, q⟩
  cases rx
  cases ry
  obtain ⟨z, d, as, xs, e, g, r, dd⟩ := nd_of I n
  have ru : (nestedKind X.prog X.w).room X.A.in1 := show X.A.units + 1 + 8 < cLine by omega
  refine wpAny_notIn_heap ru (hk.is I) d dd ?_
  rw [← nd_some g.length.symm r]
  rw [Bool.bne_true] at q
  exact ⟨.bl _, H, I.tok _, rfl, q⟩
/-- d[k] = v -/
def rSetN (P : Program) (w : World) (K : PySem.W.Frag) : TSet := fun o i v H Q => ∃ a b kvs k, o = .ref a ∧ i = .ref b ∧ NdAt P w K H a kvs ∧ NKeyAt K H b k ∧ kvs.length < sizeLine ∧ ∀ ob, NdAt P w K (upd H a ob) a (putK kvs k v) → Q (upd H a ob)
theorem nd_put {kvs : List (NestedKey × V)} {as : List Addr} {xs : List (NestedKey × Addr × Value)} {k : NestedKey} {b : Addr} {v : V} {u : Value} {G : NestedKey → Addr → Prop} (l : as.length = kvs.length) (r : Paired NPair (kvs.zip as) xs) (g : Paired (fun (p : NestedKey × V) b => G p.1 b) kvs as)
    (gb : G k b) (ru : RelV v u) : ∃ as', as'.length = (putK kvs k v).length ∧ Paired NPair ((putK kvs k v).zip as') (storedH xs k b u) ∧ Paired (fun (p : NestedKey × V) b => G p.1 b) (putK kvs k v) as' := by
  have e : (kvs.any fun kv => decide (kv.1 = k)) = (atKey xs k).isSome := by
    rw [valV_any, nd_some l r]
  unfold putK storedH
  rw [e]
  by_cases q : (atKey xs k).isSome = true
  · rw [if_pos q, if_pos q]
    refine ⟨as, by rw [List.length_map]; exact l, ?_, ?_⟩
    · clear g e q
      induction kvs generalizing as xs with
      | nil =>
        match as, l with
        | [], _ => cases r; exact .nil
      | cons p ps ih =>
        match as, l with
        | c :: cs, l =>
          rw [List.zip_cons_cons] at r
          cases r with
          | @cons _ q _ qs h t =>
            rw [List.map_cons, List.zip_cons_cons, List.map_cons]
            refine .cons ?_ (ih (by simpa using l) t)
            obtain ⟨h1, h2, h3⟩ := h
            unfold putAt
            by_cases e : p.1 = k
            · rw [if_pos e, if_pos (h1.symm.trans e)]
              exact ⟨h1, h2, ru⟩
            · rw [if_neg e, if_neg (fun z => e (h1.trans z))]
              exact ⟨h1, h2, h3⟩
    · clear r e q l
      induction kvs generalizing as with
      | nil => cases g; exact .nil
      | cons p ps ih =>
        cases g with
        | cons g1 g2 =>
          rw [List.map_cons]
          refine .cons ?_ (ih g2)
          by_cases e : p.1 = k
          · rw [if_pos e]
            exact g1
          · rw [if_neg e]
            exact g1
  · rw [if_neg q, if_neg q]
    refine ⟨as ++ [b], by rw [List.length_append, List.length_append, l]; rfl, ?_, Paired.snoc g gb⟩
    rw [List.zip_append l.symm]
    exact Paired.snoc r ⟨rfl, rfl, ru⟩
theorem set_nd (hu : X.A.units + 64 < cLine) : PSet X (rSetN X.prog X.w X.K) := by
  rintro pins s σ H o i v ov iv u Q I ro ri rv ⟨a, b, kvs, k, rfl, rfl, n, hk, few, q⟩
  cases ro
  cases ri
  obtain ⟨z, d, as, xs, e, g, r, dd⟩ := nd_of I n
  have ru : (nestedKind X.prog X.w).room X.A.in1 := show X.A.units + 1 + 8 < cLine by omega
  obtain ⟨as', l', r', g'⟩ := nd_put (G := fun k b => NKeyAt X.K H b k) g.length.symm r g hk rv
  have lx : xs.length ≤ sizeLine := by
    rw [← r.length, List.length_zip, ← g.length, Nat.min_self]
    exact z
  refine wpAny_setItem_heap (hsz := lx) ru (hk.is I) dd fun h' dd' hs => ?_
  obtain ⟨o', es, ep, eo, c1, c2, c3, _, c4⟩ := dd'
  have nw : NdHeap X.prog X.w a ((putK kvs k v).zip as') h' := by
    refine ⟨?_, d, _, r', o', es, ep, eo, c1, c2, c3, c4⟩
    rw [List.length_zip, l', Nat.min_self]
    have := length_putK kvs k v
    omega
  have I' : Inv X pins σ (upd H a (ndO X.prog X.w a ((putK kvs k v).zip as'))) { s with heap := h', toks := s.toks + (nestedKind X.prog X.w).draws k } :=
    d_write I (by rw [e]; trivial) hs ⟨_, eo⟩ (ndO_ok nw)
  exact ⟨_, I', q _ ⟨as', upd_same, L2.Paired.mapP g' fun p c hc => hc.keep fun p xs h => n.sqT h⟩⟩
/-- {} that is to have nested keys -/
def tDNewN (P : Program) (w : World) (K : PySem.W.Frag) : TE := fun _ H Q => ∀ p o, H p = none → NdAt P w K (upd H p o) p [] → Q (.ref p) (upd H p o)
theorem pe_dnewN {pos : Pos} : PE X (.Dict [] [] pos) (tDNewN X.prog X.w X.K) := ⟨fun pins s σ H Q I h => by
  have nw : NdHeap X.prog X.w s.heap.objs.size [] (s.heap.push { cls := .type "dict", data := .dict #[] }) :=
    ⟨Nat.zero_le _, beq_eq_false_iff_ne.mpr (Ne.symm (Nat.ne_of_lt I.big)), [], .nil, _, #[], 0, Heap.get?_push_size _ rfl, ⟨rfl, rfl, rfl⟩, rfl, rfl, List.nodup_nil⟩
  exact wpAny_Dict_empty ⟨.ref s.heap.objs.size, _, I.laid (a := s.heap.objs.size) (o := ndO X.prog X.w s.heap.objs.size []) (t' := s.toks) (fun _ _ q => Heap.get?_push_of_some _ q) (Nat.le_refl _) (ndO_ok nw), rfl, h _ _ (I.hok.fresh (Nat.le_refl _)) ⟨[], upd_same, .nil⟩⟩⟩
end
end Kn


namespace Kn
open PySem PySem.Spec PyProof.Rows L2
/-- {k: v} of a nested key -/
def tDisp1N (P : Program) (w : World) (K : PySem.W.Frag) (tk tv : TE) : TE := fun σ H Q => ∀ p o, H p = none → NdAt P w K (upd H p o) p [] → tk σ (upd H p o) fun x H1 => tv σ H1 fun y H2 =>
  ∃ b k, x = .ref b ∧ NdAt P w K H2 p [] ∧ NKeyAt K H2 b k ∧ ∀ o', NdAt P w K (upd H2 p o') p [(k, y)] → Q (.ref p) (upd H2 p o')
theorem pe_disp1N {X : Cx} {ke ve : Expr} {pos : Pos} {tk tv : TE} (hu : X.A.units + 64 < cLine) (hk : PE X ke tk) (hv : PE X ve tv) : PE X (.Dict [some ke] [ve] pos) (tDisp1N X.prog X.w X.K tk tv) := by
  refine ⟨fun pins s σ H Q I q => ?_⟩
  have hn := I.hok.fresh (Nat.le_refl s.heap.objs.size)
  have nw : NdHeap X.prog X.w s.heap.objs.size [] (s.heap.push { cls := .type "dict", data := .dict #[] }) :=
    ⟨Nat.zero_le _, beq_eq_false_iff_ne.mpr (Ne.symm (Nat.ne_of_lt I.big)), [], .nil, _, #[], 0, Heap.get?_push_size _ rfl, ⟨rfl, rfl, rfl⟩, rfl, rfl, List.nodup_nil⟩
  have I1 : Inv X pins σ (upd H s.heap.objs.size (ndO X.prog X.w s.heap.objs.size [])) { s with heap := s.heap.push { cls := .type "dict", data := .dict #[] } } :=
    I.laid (a := s.heap.objs.size) (o := ndO X.prog X.w s.heap.objs.size []) (t' := s.toks) (fun _ _ q => Heap.get?_push_of_some _ q) (Nat.le_refl _) (ndO_ok nw)
  have ru : (nestedKind X.prog X.w).room X.A := show X.A.units + 8 < cLine by omega
  rw [arm_eval_Dict, zip_pairTrees [some ke] [ve] X.env pos rfl rfl, dictDisplay_pairs (pairTrees [some ke] [ve] X.env pos) (by intro e; cases e) (show 1 < 17 by decide)]
  refine wpAny_bind (wpAny_standAt (wpAny_bind (wpAny_subDictH (knd := nestedKind X.prog X.w) (Q := fun d s' => wpAny (model X.prog X.w) X.A (pure (Value.ref d)) (EP X pins σ Q) X.xe s') ru (show 1 ≤ 15 by decide) ?_)))
  refine pairTrees_cons_walk (thn (hk.run pins _ σ _ _ I1 (q _ _ hn ⟨[], upd_same, .nil⟩)) fun kv s2 ⟨x, H2, I2, r2, q2⟩ => thn (hv.run pins s2 σ H2 _ I2 q2) fun vv s3 ⟨y, H3, I3, r3, b, k, ex, n3, hk3, q3⟩ => pairTrees_nil_walk ?_)
  subst ex
  cases r2
  obtain ⟨z, d, as, xs, e, g, r, dd⟩ := nd_of I3 n3
  cases g
  cases r
  refine ⟨[(k, b, vv)], ⟨rfl, rfl, hk3.is I3, trivial⟩, dd, fun h' tk dd' hs => wpAny_pure ?_⟩
  obtain ⟨o', es, ep, eo, c1, c2, c3, _, c4⟩ := dd'
  have nw3 : NdHeap X.prog X.w s.heap.objs.size [((k, y), b)] h' := ⟨(show 1 ≤ sizeLine by decide), d, _, .cons ⟨rfl, rfl, r3⟩ .nil, o', es, ep, eo, c1, c2, c3, c4⟩
  have I' : Inv X pins σ (upd H3 s.heap.objs.size (ndO X.prog X.w s.heap.objs.size [((k, y), b)])) { s3 with heap := h', toks := tk } :=
    d_write I3 (by rw [e]; trivial) hs ⟨_, eo⟩ (ndO_ok nw3)
  exact ⟨.ref _, _, I', rfl, q3 _ ⟨[b], upd_same, .cons (hk3.keep fun p xs h => n3.sqT h) .nil⟩⟩
end Kn


namespace Kn
open PySem PySem.Spec PyProof.Rows L2
/-! ### the states of a run: for each kind the marks of its stores -/
abbrev SS := List (List Int)
def kL (l : List Int) : NestedKey := .tup (l.map NestedKey.num)
def kS (S : SS) : NestedKey := .tup (S.map kL)
def dI (l : List Int) : PyData := .tuple (l.map PyData.int)
def dS (S : SS) : PyData := .tuple (S.map dI)
theorem datas_nums : ∀ l : List Int, NestedKey.datas (l.map NestedKey.num) = l.map PyData.int
  | [] => rfl
  | m :: r => by
    show NestedKey.data (.num m) :: NestedKey.datas (r.map NestedKey.num) = _
    rw [datas_nums r]
    rfl
theorem datas_kL : ∀ S : SS, NestedKey.datas (S.map kL) = S.map dI
  | [] => rfl
  | l :: r => by
    show NestedKey.data (kL l) :: NestedKey.datas (r.map kL) = dI l :: r.map dI
    rw [datas_kL r]
    show PyData.tuple (NestedKey.datas (l.map NestedKey.num)) :: _ = _
    rw [datas_nums]
    rfl
theorem kS_data (S : SS) : (kS S).data = dS S := by
  show PyData.tuple (NestedKey.datas (S.map kL)) = _
  rw [datas_kL]
  rfl
theorem nums_inj : ∀ {l r : List Int}, l.map NestedKey.num = r.map NestedKey.num → l = r
  | [], [], _ => rfl
  | [], _ :: _, h => by cases h
  | _ :: _, [], h => by cases h
  | a :: l, b :: r, h => by
    rw [List.map_cons, List.map_cons] at h
    injection h with h1 h2
    injection h1 with h1
    rw [h1, nums_inj h2]
theorem kLs_inj : ∀ {S T : SS}, S.map kL = T.map kL → S = T
  | [], [], _ => rfl
  | [], _ :: _, h => by cases h
  | _ :: _, [], h => by cases h
  | a :: l, b :: r, h => by
    rw [List.map_cons, List.map_cons] at h
    injection h with h1 h2
    unfold kL at h1
    injection h1 with h1
    rw [nums_inj h1, kLs_inj h2]
theorem kS_inj {S T : SS} (h : kS S = kS T) : S = T := by
  unfold kS at h
  injection h with h
  exact kLs_inj h
theorem nums_deep : ∀ l : List Int, NestedKey.depthAll (l.map NestedKey.num) = 0
  | [] => rfl
  | m :: r => by
    show max 0 (NestedKey.depthAll (r.map NestedKey.num)) = 0
    rw [nums_deep r]
    rfl
theorem kLs_deep : ∀ S : SS, NestedKey.depthAll (S.map kL) ≤ 1
  | [] => Nat.zero_le _
  | l :: r => by
    have h := kLs_deep r
    have e : NestedKey.depth (kL l) = NestedKey.depthAll (l.map NestedKey.num) + 1 := rfl
    have z := nums_deep l
    show max (NestedKey.depth (kL l)) (NestedKey.depthAll (r.map kL)) ≤ 1
    omega
theorem kS_deep (S : SS) : (kS S).depth ≤ 8 := by
  have h := kLs_deep S
  show NestedKey.depthAll (S.map kL) + 1 ≤ 8
  omega
/-- all who may send: the asking store, and each store with its mark -/
def sndr (g : Pg) (p : Int) (S : SS) : List (Str × Int) := (g.asks, p) :: ((namesG g).zip S).flatMap fun x => x.2.map fun m => (x.1, m)
theorem sndr_in {g : Pg} {p : Int} {S : SS} {s : Str × Int} (h : s ∈ sndr g p S) : s = (g.asks, p) ∨ ∃ (k : Nat) (l : List Int), (namesG g)[k]? = some s.1 ∧ S[k]? = some l ∧ s.2 ∈ l := by
  unfold sndr at h
  rcases List.mem_cons.mp h with h | h
  · exact .inl h
  · obtain ⟨x, hx, hs⟩ := List.mem_flatMap.mp h
    obtain ⟨m, hm, rfl⟩ := List.mem_map.mp hs
    obtain ⟨k, hk⟩ := List.mem_iff_getElem?.mp hx
    obtain ⟨h1, h2⟩ := List.getElem?_zip_eq_some.mp hk
    exact .inr ⟨k, x.2, h1, h2, hm⟩
theorem sndr_mk {g : Pg} {p : Int} {S : SS} {k : Nat} {n : Str} {l : List Int} {m : Int} (h1 : (namesG g)[k]? = some n) (h2 : S[k]? = some l) (hm : m ∈ l) : (n, m) ∈ sndr g p S := by
  unfold sndr
  refine List.mem_cons_of_mem _ (List.mem_flatMap.mpr ⟨(n, l), ?_, List.mem_map.mpr ⟨m, hm, rfl⟩⟩)
  exact List.mem_of_getElem? (List.getElem?_zip_eq_some.mpr ⟨h1, h2⟩)
theorem sndr_ask {g : Pg} {p : Int} {S : SS} : (g.asks, p) ∈ sndr g p S := List.mem_cons_self ..
/-- a state as it should be: so many stores, marks of letters -/
structure Shp (g : Pg) (p : Int) (sz : List Nat) (S : SS) : Prop where
  l : S.map List.length = sz
  mks : ∀ (k : Nat) (l : List Int) (n : Str), S[k]? = some l → (namesG g)[k]? = some n → ∀ m ∈ l, m = -1 ∨ Rch g p (n, m)
theorem sndr_src {g : Pg} (G : GW g) {p : Int} {sz : List Nat} {S : SS} (h : Shp g p sz S) {s : Str × Int} (hs : s ∈ sndr g p S) (c : canB g s.1 s.2 = true) : Src g p s := by
  rcases sndr_in hs with rfl | ⟨k, l, h1, h2, h3⟩
  · exact .inl rfl
  · rcases h.mks k l s.1 h2 h1 s.2 h3 with e | r
    · obtain ⟨e', he, _, hf⟩ := can_is c
      have := G.fee e' (row_is he).1
      omega
    · exact .inr r
theorem set_len {S : SS} {k : Nat} {l late : List Int} (h : S[k]? = some l) (hl : late.length = l.length) : (S.set k late).map List.length = S.map List.length := by
  refine List.ext_getElem? fun j => ?_
  rw [List.getElem?_map, List.getElem?_map, List.getElem?_set]
  by_cases e : k = j
  · subst e
    have lt := (List.getElem?_eq_some_iff.mp h).1
    rw [if_pos rfl, if_pos lt, h]
    show some late.length = some l.length
    rw [hl]
  · rw [if_neg e]
theorem late_len {l late : List Int} {x : Int} (h : (-1) ∈ l) (pm : late.Perm (l.tail ++ [x])) : late.length = l.length := by
  rw [pm.length_eq, List.length_append, List.length_tail]
  have := List.length_pos_of_mem h
  show l.length - 1 + 1 = l.length
  omega
theorem Shp.step {g : Pg} {p : Int} {sz : List Nat} {S : SS} (h : Shp g p sz S) {k : Nat} {l late : List Int} {n : Str} {x : Int} (hn : (namesG g)[k]? = some n) (hl : S[k]? = some l) (hm : (-1) ∈ l) (pm : late.Perm (l.tail ++ [x])) (rx : Rch g p (n, x)) : Shp g p sz (S.set k late) := by
  refine ⟨(set_len hl (late_len hm pm)).trans h.l, fun j r nm hj hnm m hm2 => ?_⟩
  rw [List.getElem?_set] at hj
  by_cases e : k = j
  · subst e
    rw [if_pos rfl, if_pos (List.getElem?_eq_some_iff.mp hl).1] at hj
    obtain rfl := Option.some.inj hj
    obtain rfl : n = nm := Option.some.inj (hn.symm.trans hnm)
    rcases List.mem_append.mp (pm.mem_iff.mp hm2) with z | z
    · exact h.mks k l n hl hn m (List.mem_of_mem_tail z)
    · obtain rfl := List.mem_singleton.mp z
      exact .inr rx
  · rw [if_neg e] at hj
    exact h.mks j r nm hj hnm m hm2
/-- all states of all runs -/
structure Clo (g : Pg) (p : Int) (sz : List Nat) (L : List SS) : Prop where
  beg : (sz.map fun n => List.replicate n (-1 : Int)) ∈ L
  all : ∀ S ∈ L, Shp g p sz S
  clo : ∀ S ∈ L, ∀ s ∈ sndr g p S, canB g s.1 s.2 = true → ∀ t ∈ lvOf g s, ∀ (k : Nat) (l : List Int), (namesG g)[k]? = some t.1 → S[k]? = some l → (-1) ∈ l → ∃ late : List Int, late.Perm (l.tail ++ [t.2]) ∧ S.set k late ∈ L
theorem known_ix {g : Pg} {n : Str} (h : (rowOf g n).isSome = true) : ∃ k : Nat, (namesG g)[k]? = some n := by
  have : n ∈ g.es.map (·.name) := mem_rows.mpr h
  exact List.mem_iff_getElem?.mp this
/-- the letter with the best mark comes from the asker or from a store with its best mark -/
theorem best_from {g : Pg} (G : GW g) {p : Int} {b : Str → Int} (B : BestOf g p b) {n : Str} (h : Rch g p (n, b n)) : (canB g g.asks p = true ∧ (n, b n) ∈ lvOf g (g.asks, p)) ∨
    ∃ k, k ≠ g.asks ∧ Rch g p (k, b k) ∧ canB g k (b k) = true ∧ (n, b n) ∈ lvOf g (k, b k) ∧ b n < b k := by
  cases h with
  | first c ht => exact .inl ⟨c, ht⟩
  | @step s _ hs c ht =>
    obtain ⟨e, he, hk, h2⟩ := left_is ht
    obtain ⟨e', he', hh, hf⟩ := can_is c
    rw [he] at he'
    obtain rfl := Option.some.inj he'
    have fe := G.fee e (row_is he).1
    have lt := (hs.lt G).1
    have h2 : b n = s.2 - e.fee := h2
    have up : ∀ m : Int, s.2 < m → (s.1, m) = (g.asks, p) ∨ Rch g p (s.1, m) → False := fun m hm hr => by
      have cm : canB g s.1 m = true := by
        unfold canB
        rw [he]
        show (!e.has && decide (e.fee ≤ m)) = true
        rw [hh, decide_eq_true (show e.fee ≤ m by omega)]
        rfl
      have tm : (n, m - e.fee) ∈ lvOf g (s.1, m) := left_mk (s := (s.1, m)) he hk
      have rr : Rch g p (n, m - e.fee) := Src.left (s := (s.1, m)) hr cm tm
      have z := B.all _ rr
      dsimp only at z
      omega
    have na : s.1 ≠ g.asks := fun z => up p lt (.inl (by rw [z]))
    have ge := B.all _ hs
    have bm : b s.1 = s.2 := by
      refine Decidable.byContradiction fun z => ?_
      have kn : s.1 ∈ g.es.map (·.name) := mem_rows.mpr (by rw [he]; rfl)
      rcases B.got s.1 kn with e1 | e1
      · have := hs.pos
        omega
      · exact up (b s.1) (by omega) (.inr e1)
    refine .inr ⟨s.1, na, ?_, ?_, ?_, by omega⟩
    · rw [bm]; exact hs
    · rw [bm]; exact c
    · rw [bm]; exact ht
theorem reach_state {g : Pg} (G : GW g) {p : Int} {b : Str → Int} (B : BestOf g p b) {sz : List Nat} {L : List SS} (C : Clo g p sz L) (hs : ∀ (k : Nat) (n : Str) (x : Nat), (namesG g)[k]? = some n → n ≠ g.asks → sz[k]? = some x → 1 ≤ x) (hl : sz.length = (namesG g).length) :
    ∀ (d : Nat) (n : Str), n ≠ g.asks → Rch g p (n, b n) → (p - b n).toNat ≤ d → ∃ S ∈ L, (∃ (k : Nat) (l : List Int), (namesG g)[k]? = some n ∧ S[k]? = some l ∧ b n ∈ l) ∧
      ∀ (j : Nat) (l : List Int) (nm : Str), (namesG g)[j]? = some nm → S[j]? = some l → (∃ m ∈ l, m ≠ -1) → b n ≤ b nm := by
  intro d
  induction d with
  | zero =>
    intro n _ h hd
    have := (h.lt G).1
    dsimp only at this
    omega
  | succ d ih =>
    intro n na h hd
    have lt := (h.lt G)
    dsimp only at lt
    obtain ⟨k, hk⟩ := known_ix lt.2
    have klt := (List.getElem?_eq_some_iff.mp hk).1
    obtain ⟨x, hx⟩ : ∃ x, sz[k]? = some x := ⟨_, List.getElem?_eq_getElem (by omega)⟩
    have x1 := hs k n x hk na hx
    have fin : ∀ (S : SS) (s : Str × Int) (l : List Int), S ∈ L → s ∈ sndr g p S → canB g s.1 s.2 = true → (n, b n) ∈ lvOf g s → S[k]? = some l → (-1) ∈ l →
        (∀ (j : Nat) (l' : List Int) (nm : Str), j ≠ k → (namesG g)[j]? = some nm → S[j]? = some l' → (∃ m ∈ l', m ≠ -1) → b n ≤ b nm) → ∃ S ∈ L, (∃ (k : Nat) (l : List Int), (namesG g)[k]? = some n ∧ S[k]? = some l ∧ b n ∈ l) ∧
      ∀ (j : Nat) (l : List Int) (nm : Str), (namesG g)[j]? = some nm → S[j]? = some l → (∃ m ∈ l, m ≠ -1) → b n ≤ b nm := fun S s l hS hs2 c ht hl2 hm tch => by
      obtain ⟨late, pm, hin⟩ := C.clo S hS s hs2 c _ ht k l hk hl2 hm
      have sk : (S.set k late)[k]? = some late := by
        rw [List.getElem?_set, if_pos rfl, if_pos (List.getElem?_eq_some_iff.mp hl2).1]
      refine ⟨_, hin, ⟨k, late, hk, sk, pm.mem_iff.mpr (List.mem_append_right _ (List.mem_singleton.mpr rfl))⟩, fun j l' nm hj hl' hm' => ?_⟩
      by_cases e : j = k
      · subst e
        obtain rfl : n = nm := Option.some.inj (hk.symm.trans hj)
        exact Int.le_refl _
      · rw [List.getElem?_set, if_neg (fun z => e z.symm)] at hl'
        exact tch j l' nm e hj hl' hm'
    rcases best_from G B h with ⟨c, ht⟩ | ⟨k', na', r', c', ht', gt⟩
    · refine fin _ (g.asks, p) (List.replicate x (-1)) C.beg sndr_ask c ht ?_ ?_ ?_
      · rw [List.getElem?_map, hx]
        rfl
      · exact List.mem_replicate.mpr ⟨by omega, rfl⟩
      · rintro j l' nm _ hj hl' ⟨m, hm, ne⟩
        rw [List.getElem?_map] at hl'
        cases z : sz[j]? with
        | none => rw [z] at hl'; cases hl'
        | some y =>
          rw [z] at hl'
          obtain rfl : List.replicate y (-1) = l' := Option.some.inj hl'
          exact absurd (List.mem_replicate.mp hm).2 ne
    · obtain ⟨S, hS, ⟨k2, l2, h1, h2, h3⟩, tch⟩ := ih k' na' r' (by omega)
      have sl := (C.all S hS).l
      have hsk : (S.map List.length)[k]? = some x := by rw [sl]; exact hx
      rw [List.getElem?_map] at hsk
      cases z : S[k]? with
      | none => rw [z] at hsk; cases hsk
      | some l =>
        rw [z] at hsk
        have ll : l.length = x := Option.some.inj hsk
        have all1 : ∀ m ∈ l, m = -1 := fun m hm => Decidable.byContradiction fun ne => by
          have := tch k l n hk z ⟨m, hm, ne⟩
          omega
        obtain ⟨m, hm⟩ : ∃ m, m ∈ l := by
          match l, ll with
          | [], ll => exact absurd ll (by show ¬ (0 = x); omega)
          | y :: _, _ => exact ⟨y, List.mem_cons_self ..⟩
        have m1 : (-1) ∈ l := all1 m hm ▸ hm
        refine fin S (k', b k') l hS (sndr_mk h1 h2 h3) c' ht' z m1 fun j l' nm _ hj hl' hm' => ?_
        have := tch j l' nm hj hl' hm'
        omega
/-- the greatest marks in all states are the best ones -/
theorem tops_best {g : Pg} (G : GW g) {p : Int} {b : Str → Int} (B : BestOf g p b) {sz : List Nat} {L : List SS} (C : Clo g p sz L) (hs : ∀ (k : Nat) (n : Str) (x : Nat), (namesG g)[k]? = some n → n ≠ g.asks → sz[k]? = some x → 1 ≤ x) (hl : sz.length = (namesG g).length)
    {T : List Int} (hT : T.length = (namesG g).length) (upp : ∀ (k : Nat) (n : Str) (x : Int), (namesG g)[k]? = some n → T[k]? = some x → x = -1 ∨ Rch g p (n, x))
    (low : ∀ S ∈ L, ∀ s ∈ sndr g p S, canB g s.1 s.2 = true → ∀ t ∈ lvOf g s, ∀ (k : Nat) (x : Int), (namesG g)[k]? = some t.1 → T[k]? = some x → t.2 ≤ x) : T = (namesG g).map b := by
  refine List.ext_getElem? fun k => ?_
  rw [List.getElem?_map]
  cases z : (namesG g)[k]? with
  | none =>
    rw [List.getElem?_eq_none_iff] at z
    rw [List.getElem?_eq_none_iff.mpr (by omega)]
    rfl
  | some n =>
    have klt := (List.getElem?_eq_some_iff.mp z).1
    obtain ⟨x, hx⟩ : ∃ x, T[k]? = some x := ⟨_, List.getElem?_eq_getElem (by omega)⟩
    rw [hx]
    show some x = some (b n)
    have kn : n ∈ g.es.map (·.name) := List.mem_of_getElem? z
    have u := upp k n x z hx
    rcases B.got n kn with e | r
    · rcases u with u | u
      · rw [u, e]
      · have h1 := B.all _ u
        have h2 := u.pos
        dsimp only at h1 h2
        omega
    · have le : x ≤ b n := by
        rcases u with u | u
        · have := r.pos
          dsimp only at this
          omega
        · exact B.all _ u
      have ge : b n ≤ x := by
        rcases best_from G B r with ⟨c, ht⟩ | ⟨k', na', r', c', ht', gt⟩
        · exact low _ C.beg (g.asks, p) sndr_ask c _ ht k x z hx
        · obtain ⟨S, hS, ⟨k2, l2, h1, h2, h3⟩, _⟩ := reach_state G B C hs hl _ k' na' r' (Nat.le_refl _)
          exact low S hS (k', b k') (sndr_mk h1 h2 h3) c' _ ht' k x z hx
      rw [Int.le_antisymm le ge]
/-! ### there are few states -/
def codeL : List Int → Nat
  | [] => 0
  | m :: r => (m + 1).toNat + 7 * codeL r
theorem codeL_lt : ∀ {l : List Int}, (∀ m ∈ l, -1 ≤ m ∧ m ≤ 5) → codeL l < 7 ^ l.length
  | [], _ => by decide
  | m :: r, h => by
    have a := codeL_lt (l := r) fun x hx => h x (List.mem_cons_of_mem _ hx)
    have b := h m (List.mem_cons_self ..)
    show (m + 1).toNat + 7 * codeL r < 7 ^ (r.length + 1)
    rw [Nat.pow_succ]
    omega
theorem codeL_inj : ∀ {l r : List Int}, l.length = r.length → (∀ m ∈ l, -1 ≤ m ∧ m ≤ 5) → (∀ m ∈ r, -1 ≤ m ∧ m ≤ 5) → codeL l = codeL r → l = r
  | [], [], _, _, _, _ => rfl
  | [], _ :: _, h, _, _, _ => by cases h
  | _ :: _, [], h, _, _, _ => by cases h
  | a :: l, b :: r, h, ha, hb, e => by
    have a1 := ha a (List.mem_cons_self ..)
    have b1 := hb b (List.mem_cons_self ..)
    have e : (a + 1).toNat + 7 * codeL l = (b + 1).toNat + 7 * codeL r := e
    have e1 : a = b := by omega
    have e2 : codeL l = codeL r := by omega
    rw [e1, codeL_inj (by simpa using h) (fun x hx => ha x (List.mem_cons_of_mem _ hx)) (fun x hx => hb x (List.mem_cons_of_mem _ hx)) e2]
theorem flatS_len : ∀ S : SS, S.flatten.length = (S.map List.length).sum
  | [] => rfl
  | l :: r => by rw [List.flatten_cons, List.length_append, flatS_len r]; rfl
theorem flat_inj : ∀ {S T : SS}, S.map List.length = T.map List.length → S.flatten = T.flatten → S = T
  | [], [], _, _ => rfl
  | [], _ :: _, h, _ => by cases h
  | _ :: _, [], h, _ => by cases h
  | a :: l, b :: r, h, e => by
    rw [List.map_cons, List.map_cons] at h
    injection h with h1 h2
    rw [List.flatten_cons, List.flatten_cons] at e
    obtain ⟨e1, e2⟩ := List.append_inj e h1
    rw [e1, flat_inj h2 e2]
theorem few_states {g : Pg} (G : GW g) {p : Int} (p6 : p ≤ 6) {sz : List Nat} (s8 : sz.sum ≤ 8) (nl : sz.length ≤ (namesG g).length) {L : List SS} (nd : L.Nodup) (all : ∀ S ∈ L, Shp g p sz S) : L.length ≤ 5764801 := by
  have dig : ∀ S ∈ L, ∀ m ∈ S.flatten, -1 ≤ m ∧ m ≤ 5 := fun S hS m hm => by
    obtain ⟨l, hl, hm⟩ := List.mem_flatten.mp hm
    obtain ⟨k, hk⟩ := List.mem_iff_getElem?.mp hl
    have sl := (all S hS).l
    have kl : k < S.length := (List.getElem?_eq_some_iff.mp hk).1
    have e : S.length = sz.length := by rw [← sl, List.length_map]
    obtain ⟨n, hn⟩ : ∃ n, (namesG g)[k]? = some n := ⟨_, List.getElem?_eq_getElem (by omega)⟩
    rcases (all S hS).mks k l n hk hn m hm with z | z
    · omega
    · have h1 := z.pos
      have h2 := (z.lt G).1
      dsimp only at h1 h2
      omega
  have fl : ∀ S ∈ L, S.flatten.length = sz.sum := fun S hS => by rw [flatS_len, (all S hS).l]
  have nd2 : (L.map fun S => codeL S.flatten).Nodup := by
    refine List.pairwise_map.mpr ((List.Pairwise.and_mem.mp nd).imp fun {S T} h e => h.2.2 ?_)
    exact flat_inj (by rw [(all S h.1).l, (all T h.2.1).l]) (codeL_inj (by rw [fl S h.1, fl T h.2.1]) (dig S h.1) (dig T h.2.1) e)
  have sub := nodup_sub (ys := List.range 5764801) nd2 fun x hx => by
    obtain ⟨S, hS, rfl⟩ := List.mem_map.mp hx
    refine List.mem_range.mpr ?_
    have a := codeL_lt (dig S hS)
    rw [fl S hS] at a
    have b : 7 ^ sz.sum ≤ 7 ^ 8 := Nat.pow_le_pow_right (by decide) s8
    have c : 7 ^ 8 = 5764801 := by decide
    omega
  rw [List.length_map, List.length_range] at sub
  exact sub
end Kn


/-! Kn: sorted of a tuple of ints. -/
namespace Kn
open PySem PySem.Spec PyProof.Rows L2
section
variable {prog : Program} {w : World} {A : Around} {s : Shared} {E : Value → Shared → Prop}
theorem collect_tup {l : Addr} {vs : List Value} {Q : List Value → Shared → Prop} (hl : IsTup s.heap l vs.toArray)
    (h : Q vs { s with heap := (s.heap.push (seqObj "list" #[] 0)).update s.heap.objs.size (Obj.mapSeq (· ++ vs.toArray)) }) (hsz : vs.length ≤ sizeLine) :
    wpAny (model prog w) A (collect (.ref l)) Q E s := by
  obtain ⟨o, ho, hc, n, hd⟩ := id hl
  unfold collect
  refine wpAny_bind (wpAny_runValue (codeAny_builtin entry_proto_collect' ?_))
  show wpAny _ _ (do again (.builtin "list.__iadd__" ⟨[← newList [], .ref l], []⟩)) _ _ s
  refine wpAny_bind (wpAny_newList (wpAny_pure ⟨Code.quiet_builtin _ (by decide +kernel), codeAny_builtin entry_list_iadd' ?_⟩))
  show wpAny _ _ (Builtin.List.listExtendWith (.ref s.heap.objs.size) (.ref l) (.ref s.heap.objs.size)) _ _ { s with heap := s.heap.push (seqObj "list" #[] 0) }
  unfold Builtin.List.listExtendWith
  have ho' : (s.heap.push (seqObj "list" #[] 0)).get? l = some o := Heap.get?_push_of_some _ ho
  refine wpAny_bind (wpAny_typeOf (T := "tuple") ⟨o, ho', hc⟩ ?_)
  have ht : (Value.type "tuple" == Value.type "tuple") = true := by rfl
  rw [if_pos (by rw [ht]; simp)]
  refine wpAny_bind (listItems_at ho' hd ?_)
  refine wpAny_bind (listItems_at (xs := #[]) (n := 0) (Heap.get?_push_size _ rfl) rfl ?_)
  rw [if_neg (by simp)]
  refine wpAny_bind (listUpdate_at (xs := #[]) (n := 0) (Heap.get?_push_size _ rfl) rfl ?_ (Nat.zero_le _) (by show (#[] ++ vs.toArray).size ≤ sizeLine + 1; simp only [Array.size_append, List.size_toArray, List.length_nil]; omega))
  refine wpAny_pure ?_
  show wpAny (model prog w) A (do
      let o ← load s.heap.objs.size
      match o.data with
      | .seq xs _ => pure xs.toList
      | _ => unsupported "internal:collect") Q E { s with heap := (s.heap.push (seqObj "list" #[] 0)).update s.heap.objs.size (Obj.mapSeq (· ++ vs.toArray)) }
  refine wpAny_bind (wpAny_load (get?_update_seq (Heap.get?_push_size _ rfl) _) ?_)
  show wpAny _ _ (pure ((#[] : Array Value) ++ vs.toArray).toList) Q E _
  rw [show ((#[] : Array Value) ++ vs.toArray).toList = vs by simp]
  exact wpAny_pure h
theorem sorted_ordT {l : Addr} {vs : List Value} {ltv : Value → Value → Bool} {Q : Value → Shared → Prop} (O : SrtO.Swo ltv) (hl : IsTup s.heap l vs.toArray) (hz : vs.length ≤ sizeLine)
    (hS : 2 ≤ vs.length → ∀ (h₁ : Heap) (a : Addr), h₁.get? a = some (seqObj "list" vs.toArray 0) → (∀ b o, s.heap.get? b = some o → b ≠ a ∧ h₁.get? b = some o) → SrtO.SortableO prog w A.in1.in1 { s with heap := h₁ } a vs ltv)
    (h : ∀ out : List Value, SrtO.Srtd ltv out → SrtO.Stb ltv out vs → Q (.ref (s.heap.objs.size + 1)) { s with heap := sortedAll s.heap vs out.toArray }) :
    wpAny (model prog w) A (call (.builtin "sorted") [.ref l]) Q E s := by
  refine Calls.call_function_entry kind_sorted plain_sorted entry_sorted (args_sorted1 _) ?_
  unfold Builtin.«sorted»
  refine wpAny_bind (m := checkCount "sorted" 1 1 _) (wpAny_pure ?_)
  refine wpAny_bind (collect_tup hl ?_ hz)
  refine wpAny_bind (wpAny_newList ?_ hz)
  have hsz : ((s.heap.push (seqObj "list" #[] 0)).update s.heap.objs.size (Obj.mapSeq (· ++ vs.toArray))).objs.size = s.heap.objs.size + 1 := by
    rw [Heap.size_update, size_push']
  have hoL : (((s.heap.push (seqObj "list" #[] 0)).update s.heap.objs.size (Obj.mapSeq (· ++ vs.toArray))).push (seqObj "list" vs.toArray 0)).get? (s.heap.objs.size + 1) = some (seqObj "list" vs.toArray 0) := by
    rw [← hsz]; exact Heap.get?_push_size _ rfl
  have keep : ∀ b o, s.heap.get? b = some o → b ≠ s.heap.objs.size + 1 ∧ (((s.heap.push (seqObj "list" #[] 0)).update s.heap.objs.size (Obj.mapSeq (· ++ vs.toArray))).push (seqObj "list" vs.toArray 0)).get? b = some o := fun b o q => by
    have hlt : b < s.heap.objs.size := Heap.lt_size q
    refine ⟨Nat.ne_of_lt (Nat.lt_succ_of_lt hlt), Heap.get?_push_of_some _ ?_⟩
    rw [Heap.get?_update_ne _ _ _ _ (Nat.ne_of_lt hlt)]
    exact Heap.get?_push_of_some _ q
  show wpAny _ _ _ _ _ { s with heap := ((s.heap.push (seqObj "list" #[] 0)).update s.heap.objs.size (Obj.mapSeq (· ++ vs.toArray))).push (seqObj "list" vs.toArray 0) }
  rw [hsz]
  refine wpAny_bind (wpAny_holding (wpAny_call_entry slot_list_sort ⟨_, hoL, rfl⟩ entry_list_sort (SrtO.list_sort_ord O hoL hz (fun h2 => hS h2 _ _ hoL keep) fun out hs hb => ⟨_, rfl, ?_⟩) (args_list_sort _)))
  exact wpAny_pure ⟨_, rfl, h out hs hb⟩
end
def rSortedIT (K : PySem.W.Frag) : List V → Hp → VK → Prop := fun vs H Q => ∃ (a : Addr) (ns : List Int), vs = [V.ref a] ∧ SqT K H a (ns.map V.int) ∧
  ∀ (ns' : List Int) (p : Addr), ns'.Perm ns → ns'.Pairwise (· ≤ ·) → H p = none → Q (.ref p) (upd H p (.lst (ns'.map V.int)))
theorem cr_sortedIT {X : Cx} : CallR X (.builtin "sorted") (rSortedIT X.K) := by
  intro pins s σ H vs us Q I r h
  obtain ⟨a, ns, rfl, hs, q⟩ := h
  obtain ⟨its, rv, hl, hz⟩ := I.tuple hs
  rw [Vals.ref1 r]
  have hi := rv.ints
  refine sorted_ordT SrtO.swo_int hl (by rw [← rv.length]; exact hz) (fun h2 h₁ a' _ _ => SrtO.ints_sortable hi h2) fun out h1 h2 => ?_
  obtain ⟨k1, k2, k3⟩ := SrtO.ints_out hi h1 h2
  obtain ⟨ep, he'⟩ := PyProof.Rows.sortedAll_at s.heap its out.toArray
  have hlen : ((out.map SrtO.iv).map V.int).length ≤ sizeLine := by
    rw [List.length_map, k2.length_eq]
    rw [List.length_map] at hz
    exact hz
  exact ⟨.ref _, upd H (s.heap.objs.size + 1) (.lst ((out.map SrtO.iv).map V.int)), I.laid (t' := s.toks) (fun _ _ => PyProof.Rows.sortedAll_old) (Nat.le_succ _) ⟨hlen, out, ep, vals_of_ints k1, he'⟩, rfl, q _ _ k2 k3 (I.hok.fresh (Nat.le_succ _))⟩
end Kn


namespace Kn
open PySem PySem.Spec PyProof.Rows L2
theorem dps_filt {α : Type} {f : α → PyData} {K : PySem.W.Frag} {H : Hp} {k : α → Bool} : ∀ {ys : List V} {qs : List α}, DpAll K H ys (qs.map f) → DpAll K H (((ys.zip qs).filter fun c => k c.2).map (·.1)) ((qs.filter k).map f)
  | _, [], .nil => .nil
  | y :: ys, q :: qs, .cons a b => by
    have ih := dps_filt (k := k) (ys := ys) (qs := qs) b
    rw [List.zip_cons_cons, List.filter_cons, List.filter_cons]
    cases z : k q
    · rw [if_neg (by simp [z]), if_neg (by simp)]
      exact ih
    · rw [if_pos (by simp [z]), if_pos rfl, List.map_cons, List.map_cons]
      exact .cons a ih
theorem ints_of {K : PySem.W.Frag} {H : Hp} : ∀ {l : List Int} {xs : List V}, DpAll K H xs (l.map PyData.int) → xs = l.map V.int
  | [], _, .nil => rfl
  | m :: r, _, .cons a b => by
    cases a
    rw [ints_of b]
    rfl
theorem dp_ints {K : PySem.W.Frag} {H : Hp} : ∀ l : List Int, DpAll K H (l.map V.int) (l.map PyData.int)
  | [] => .nil
  | m :: r => .cons (.int m) (dp_ints r)
theorem flat_ints : ∀ l : List Int, (l.map V.int).all flatV = true
  | [] => rfl
  | m :: r => by
    rw [List.map_cons, List.all_cons, flat_ints r]
    rfl
theorem in_ints (x : Int) : ∀ l : List Int, inV (.int x) (l.map V.int) = decide (x ∈ l)
  | [] => rfl
  | m :: r => by
    have ih := in_ints x r
    unfold inV at ih ⊢
    rw [List.map_cons, List.any_cons, ih]
    show ((m == x) || _) = _
    by_cases e : m = x
    · subst e
      simp
    · have : (m == x) = false := by simpa using e
      rw [this, Bool.false_or]
      refine decide_eq_decide.mpr ⟨fun h => List.mem_cons_of_mem _ h, fun h => (List.mem_cons.mp h).elim (fun z => absurd z.symm e) id⟩
/-- where a name stands among the names -/
theorem ix_name {K : PySem.W.Frag} {H : Hp} {Q : VK} {a : Addr} {ns : List Str} {n : Str} {k : Nat} (h : SqL K H a (ns.map V.str)) (nd : ns.Nodup) (hk : ns[k]? = some n) (q : Q (.int ((k : Nat) : Int)) H) : rIndex K (.ref a) [.str n] H Q := by
  refine ⟨a, _, .str n, k, .str n, rfl, rfl, h, rfl, flat_strs ns, by rw [List.getElem?_map, hk]; rfl, beq_self_eq_true n, fun m z' hm hz => ?_, q⟩
  rw [List.getElem?_map] at hz
  cases e : ns[m]? with
  | none => rw [e] at hz; cases hz
  | some n' =>
    rw [e] at hz
    obtain rfl : V.str n' = z' := Option.some.inj hz
    show (n' == n) = false
    refine beq_eq_false_iff_ne.mpr fun z => ?_
    subst z
    have := (List.getElem?_inj (List.getElem?_eq_some_iff.mp e).1 nd).mp (e.trans hk.symm)
    omega
/-- the senders of the first kinds -/
def sndrN (g : Pg) (p : Int) (S : SS) (j : Nat) : List (Str × Int) := (g.asks, p) :: (((namesG g).zip S).take j).flatMap fun x => x.2.map fun m => (x.1, m)
theorem sndrN_all {g : Pg} {p : Int} {S : SS} (h : S.length = (namesG g).length) : sndrN g p S S.length = sndr g p S := by
  unfold sndrN sndr
  rw [List.take_of_length_le]
  rw [List.length_zip]
  omega
theorem sndrN_next {g : Pg} {p : Int} {S : SS} {j : Nat} {n : Str} {l : List Int} (h1 : (namesG g)[j]? = some n) (h2 : S[j]? = some l) : sndrN g p S (j + 1) = sndrN g p S j ++ l.map fun m => (n, m) := by
  unfold sndrN
  have z : ((namesG g).zip S)[j]? = some (n, l) := List.getElem?_zip_eq_some.mpr ⟨h1, h2⟩
  rw [List.take_add_one, z, List.flatMap_append, List.cons_append]
  congr 2
  show (l.map fun m => (n, m)) ++ [] = _
  rw [List.append_nil]
theorem sndrN_len {g : Pg} {p : Int} {S : SS} (few : ∀ l ∈ S, l.length ≤ 8) : ∀ j, (sndrN g p S j).length ≤ 1 + 8 * j
  | 0 => by unfold sndrN; rw [List.take_zero]; exact Nat.le_refl _
  | j + 1 => by
    have ih := sndrN_len (g := g) (p := p) few j
    cases h1 : (namesG g)[j]? with
    | none =>
      have : sndrN g p S (j + 1) = sndrN g p S j := by
        unfold sndrN
        rw [List.take_add_one, List.getElem?_eq_none_iff.mpr (by rw [List.length_zip]; have := List.getElem?_eq_none_iff.mp h1; omega), show (none : Option (Str × List Int)).toList = [] from rfl, List.append_nil]
      rw [this]
      omega
    | some n =>
      cases h2 : S[j]? with
      | none =>
        have : sndrN g p S (j + 1) = sndrN g p S j := by
          unfold sndrN
          rw [List.take_add_one, List.getElem?_eq_none_iff.mpr (by rw [List.length_zip]; have := List.getElem?_eq_none_iff.mp h2; omega), show (none : Option (Str × List Int)).toList = [] from rfl, List.append_nil]
        rw [this]
        omega
      | some l =>
        rw [sndrN_next h1 h2, List.length_append, List.length_map]
        have := few l (List.mem_of_getElem? h2)
        omega
structure AfterOk (g : Pg) (p : Int) (S : SS) (Ss : List SS) : Prop where
  snd : ∀ T ∈ Ss, ∃ s ∈ sndr g p S, canB g s.1 s.2 = true ∧ ∃ t ∈ lvOf g s, ∃ (k : Nat) (l late : List Int), (namesG g)[k]? = some t.1 ∧ S[k]? = some l ∧ (-1) ∈ l ∧ late.Perm (l.tail ++ [t.2]) ∧ T = S.set k late
  cmp : ∀ s ∈ sndr g p S, canB g s.1 s.2 = true → ∀ t ∈ lvOf g s, ∀ (k : Nat) (l : List Int), (namesG g)[k]? = some t.1 → S[k]? = some l → (-1) ∈ l → ∃ late : List Int, late.Perm (l.tail ++ [t.2]) ∧ S.set k late ∈ Ss
theorem AfterOk.shp {g : Pg} (G : GW g) {p : Int} {sz : List Nat} {S : SS} {Ss : List SS} (h : AfterOk g p S Ss) (hs : Shp g p sz S) : ∀ T ∈ Ss, Shp g p sz T := fun T hT => by
  obtain ⟨s, hs1, c, t, ht, k, l, late, h1, h2, h3, pm, rfl⟩ := h.snd T hT
  exact hs.step h1 h2 h3 pm ((sndr_src G hs hs1 c).left c ht)
end Kn


namespace Kn
open PySem PySem.Spec PyProof.Rows L2
abbrev nAf : List Str := ["_law_net", "_law_power", "_law_state", "_law_found", "_law_names", "_law_senders", "_law_k", "_law_pair", "_law_title", "_law_late", "_law_own", "_law_mark"]
theorem scAf : FnScope nAf ["_law_net", "_law_power", "_law_state"] (defScope (topS 33)) := ⟨rfl, rfl, rfl, by decide +kernel, rfl, by decide +kernel, by decide +kernel⟩
theorem sts_ts {K : PySem.W.Frag} {H H' : Hp} (t : TS H H') : ∀ {vs : List V} {Ss : List SS}, DpAll K H vs (Ss.map dS) → DpAll K H' vs (Ss.map dS)
  | _, [], .nil => .nil
  | _, S :: r, .cons a b => .cons (by rw [← kS_data] at a ⊢; exact key_dp (fun _ _ h => tupT t h) _ _ a) (sts_ts t b)
theorem pr_ts {K : PySem.W.Frag} {H H' : Hp} {v : V} {s : Str × Int} (t : TS H H') (h : Dp K H v (dPr s)) : Dp K H' v (dPr s) :=
  key_dp (fun _ _ h => tupT t h) (.tup [.text s.1, .num s.2]) v h
theorem prsD_ts {K : PySem.W.Frag} {H H' : Hp} (t : TS H H') : ∀ {vs : List V} {ss : List (Str × Int)}, DpAll K H vs (ss.map dPr) → DpAll K H' vs (ss.map dPr)
  | _, [], .nil => .nil
  | _, s :: r, .cons a b => .cons (pr_ts t a) (prsD_ts t b)
structure PartOk (g : Pg) (p : Int) (S : SS) (dn : Str × Int → Str × Int → Prop) (Ss : List SS) : Prop where
  snd : ∀ T ∈ Ss, ∃ s ∈ sndr g p S, canB g s.1 s.2 = true ∧ ∃ t ∈ lvOf g s, ∃ (k : Nat) (l late : List Int), (namesG g)[k]? = some t.1 ∧ S[k]? = some l ∧ (-1) ∈ l ∧ late.Perm (l.tail ++ [t.2]) ∧ T = S.set k late
  cmp : ∀ s t, dn s t → ∀ (k : Nat) (l : List Int), (namesG g)[k]? = some t.1 → S[k]? = some l → (-1) ∈ l → ∃ late : List Int, late.Perm (l.tail ++ [t.2]) ∧ S.set k late ∈ Ss
theorem PartOk.skip {g : Pg} (G : GW g) {p : Int} {S : SS} {dn dn' : Str × Int → Str × Int → Prop} {Ss : List SS} (h : PartOk g p S dn Ss) {t0 : Str × Int} {k0 : Nat} {l0 : List Int} (hk : (namesG g)[k0]? = some t0.1) (hl : S[k0]? = some l0) (no : (-1) ∉ l0) (sub : ∀ s t, dn' s t → dn s t ∨ t = t0) : PartOk g p S dn' Ss := by
  refine ⟨h.snd, fun s t d k l h1 h2 h3 => ?_⟩
  rcases sub s t d with d | rfl
  · exact h.cmp s t d k l h1 h2 h3
  · obtain rfl : k = k0 := (List.getElem?_inj (List.getElem?_eq_some_iff.mp h1).1 G.nd).mp (h1.trans hk.symm)
    obtain rfl : l = l0 := Option.some.inj (h2.symm.trans hl)
    exact absurd h3 no
theorem PartOk.add {g : Pg} (G : GW g) {p : Int} {S : SS} {dn dn' : Str × Int → Str × Int → Prop} {Ss : List SS} (h : PartOk g p S dn Ss) {s0 t0 : Str × Int} {k0 : Nat} {l0 late : List Int} (hs : s0 ∈ sndr g p S) (hc : canB g s0.1 s0.2 = true) (ht : t0 ∈ lvOf g s0) (hk : (namesG g)[k0]? = some t0.1) (hl : S[k0]? = some l0) (yes : (-1) ∈ l0) (pm : late.Perm (l0.tail ++ [t0.2]))
    (sub : ∀ s t, dn' s t → dn s t ∨ t = t0) : PartOk g p S dn' (Ss ++ [S.set k0 late]) := by
  refine ⟨fun T hT => ?_, fun s t d k l h1 h2 h3 => ?_⟩
  · rcases List.mem_append.mp hT with hT | hT
    · exact h.snd T hT
    · rw [List.mem_singleton.mp hT]
      exact ⟨s0, hs, hc, t0, ht, k0, l0, late, hk, hl, yes, pm, rfl⟩
  · rcases sub s t d with d | rfl
    · obtain ⟨late', p1, p2⟩ := h.cmp s t d k l h1 h2 h3
      exact ⟨late', p1, List.mem_append_left _ p2⟩
    · obtain rfl : k = k0 := (List.getElem?_inj (List.getElem?_eq_some_iff.mp h1).1 G.nd).mp (h1.trans hk.symm)
      obtain rfl : l = l0 := Option.some.inj (h2.symm.trans hl)
      exact ⟨late, pm, List.mem_append_right _ (List.mem_singleton.mpr rfl)⟩
theorem prs_dps {K : PySem.W.Frag} {H : Hp} : ∀ {vs : List V} {ss : List (Str × Int)}, PrsAt H vs ss → DpAll K H vs (ss.map dPr) := fun h => h.dp
def spAf (K : PySem.W.Frag) : Sp := fun vs H Q _ => ∃ (w : V) (g : Pg) (p : Int) (v : V) (S : SS), vs = [w, .int p, v] ∧ PgAt K H w g ∧ GW g ∧ Dp K H v (dS S) ∧ S.length = g.es.length ∧ (∀ l ∈ S, l.length ≤ 8) ∧
  ∀ (q : Addr) (ys : List V) (Ss : List SS) (H' : Hp), Same H H' → H q = none → H' q = some (.lst ys) → DpAll K H' ys (Ss.map dS) → Ss.length ≤ 1000 → AfterOk g p S Ss → Q (.ref q) H'
section
variable {P : Program} {w : World} {K : PySem.W.Frag} {mg : Str → Option Value} {base : Heap}
theorem ok_af {f fK fC fL : Addr} {fd fdK fdC fdL : FuncData} (F : Fun K "_law_after" "_law_after" (topS 33) f fd) (Ki : Def K mg "_law_row" 24 ["_law_net", "_law_title"] fK fdK) (OK : FnOk P w K mg base CX0 1 fK fdK ["_law_net", "_law_title"] (spLk K))
    (Le : Def K mg "_law_left" 26 ["_law_net", "_law_pair"] fL fdL) (OL : FnOk P w K mg base CX0 2 fL fdL ["_law_net", "_law_pair"] (spLl K))
    (Cs : Def K mg "_law_sends" 25 ["_law_net", "_law_pair"] fC fdC) (OC : FnOk P w K mg base CX0 2 fC fdC ["_law_net", "_law_pair"] (spLc K)) (mt : mg "tuple" = none) (mr : mg "range" = none) (ml : mg "len" = none) (mo : mg "sorted" = none) :
    FnOk P w K mg base CX0 3 f fd ["_law_net", "_law_power", "_law_state"] (spAf K) := by
  refine F.ok scAf (fun vs H Q E h => ?_) (fun cdv A outer s H vs Q E hr h => ?_)
  · obtain ⟨w0, g, p, v, S, rfl, _⟩ := h
    rfl
  · obtain ⟨w0, g, p, v0, S, rfl, pg, gw, dv, lS, l8, q⟩ := h
    have few := gw.few
    have nd : (namesG g).Nodup := gw.nd
    have lnm : (namesG g).length = g.es.length := List.length_map ..
    obtain ⟨pwd, q0, ws, rfl, hpw, hq0, hE⟩ := id pg
    have lws := hE.len
    obtain ⟨st, vs, rfl, hst, dvs, lvs⟩ := tupD dv
    rw [List.length_map] at lvs
    have known : ∀ s ∈ sndr g p S, (rowOf g s.1).isSome = true := fun s hs => by
      rcases sndr_in hs with rfl | ⟨k, l, h1, _, _⟩
      · exact mem_rows.mp gw.asks
      · exact mem_rows.mp (List.mem_of_getElem? h1)
    refine ⟨_, (pss_cons (ps_asg (pe_tup (pa_cons (pe_lst pa_nil) (pa_cons (pe_lc (own := [("_law_own", 10)]) (g := gName 10) (by rfl) scAf.nd (pi_tup (pe_ix ix_tup (pv 0) pe_int (fun _ _ => rfl))) (blkOk_by (own := [("_law_own", 10)]) (N := nAf) (sc := defScope (topS 33)) (by decide +kernel)) (fun _ _ _ _ _ => (pg_name (i := 10) scAf.nd rfl (Or.inl rfl))) (fun _ _ _ _ _ => pts_nil) (fun _ _ _ _ _ => (pe_ix (r := rIxT K) ix_tup (pv 10) pe_int (fun _ _ => rfl)))) (pa_cons (pe_lst (pa_cons (pe_tup (pa_cons (pe_ix ix_tup (pv 0) pe_int (fun _ _ => rfl)) (pa_cons (pv 1) pa_nil))) pa_nil)) pa_nil)))) (pg_tup (by rfl) (pgs_cons (pg_name (i := 3) scAf.nd rfl (.inl rfl)) (pgs_cons (pg_name (i := 4) scAf.nd rfl (.inr rfl)) (pgs_cons (pg_name (i := 5) scAf.nd rfl (.inl rfl)) pgs_nil)))))
      (pss_cons (ps_for PassesOwn.never rfl (pi_range1 (by rfl) mr (pa_cons (pe_callB call_len_seq (by rfl) ml PySem.boot_len (pa_cons (pv 2) pa_nil)) pa_nil)) (pg_name (i := 6) scAf.nd rfl (.inr rfl)) (pss_one (ps_expr (pe_bm PySem.F.plainAttrs_list PySem.F.slot_list_extend PySem.F.type_list_extend mt_extend (pv 5) (pa_cons (pe_lc (own := [("_law_mark", 11)]) (g := gName 11) (by rfl) scAf.nd (pi_tup (pe_ix ix_tup (pv 2) (pv 6) (fun _ _ => rfl))) (blkOk_by (own := [("_law_mark", 11)]) (N := nAf) (sc := defScope (topS 33)) (by decide +kernel)) (fun _ _ _ _ _ => (pg_name (i := 11) scAf.nd rfl (Or.inl rfl))) (fun _ _ _ _ _ => pts_nil) (fun _ _ _ _ _ => (pe_tup (pa_cons (pe_ix (r := rIxL K) ix_list (pv 4) (pv 6) (fun _ _ => rfl)) (pa_cons (pv 11) pa_nil))))) pa_nil)))))
      (pss_cons (ps_for PassesOwn.never rfl (pi_list (pe_lc (own := [("_law_own", 10)]) (g := gName 10) (by rfl) scAf.nd (pi_list (pv 5)) (blkOk_by (own := [("_law_own", 10)]) (N := nAf) (sc := defScope (topS 33)) (by decide +kernel)) (fun _ _ _ _ _ => (pg_name (i := 10) scAf.nd rfl (Or.inl rfl))) (fun _ _ _ _ _ => (pts_one (pt_val (pe_call OC (hr.mono (by decide)) (by rfl) Cs.m Cs.F.kp Cs.b .nil pass0 (pa_cons (pv 0) (pa_cons (pv 10) pa_nil)))))) (fun _ _ _ _ _ => (pv 10)))) (pg_name (i := 7) scAf.nd rfl (.inl rfl)) (pss_one (ps_for PassesOwn.never rfl (pi_tup (pe_ix ix_tup (pe_call OK (hr.mono (by decide)) (by rfl) Ki.m Ki.F.kp Ki.b .nil pass0 (pa_cons (pv 0) (pa_cons (pe_ix ix_tup (pv 7) pe_int (fun _ _ => rfl)) pa_nil))) pe_int (fun _ _ => rfl))) (pg_name (i := 8) scAf.nd rfl (.inl rfl)) (pss_cons (ps_set (i := 6) scAf.nd rfl (.inr rfl) (pe_bm PySem.F.plainAttrs_list PySem.F.slot_list_index PySem.F.type_list_index mt_index (pv 4) (pa_cons (pv 8) pa_nil)))
      (pss_one (ps_if (pt_cmpR op_in_seq (pe_un un_neg pe_int) (pe_ix ix_tup (pv 2) (pv 6) (fun _ _ => rfl)) (by rfl)) (pss_cons (ps_set (i := 9) scAf.nd rfl (.inl rfl) (pe_callTy call_tuple_of (by rfl) mt (by decide +kernel) (pa_cons (pe_callB cr_sortedIT (by rfl) mo (by decide +kernel) (pa_cons (pe_op op_catA (pe_slice sl_tupA (pe_ix ix_tup (pv 2) (pv 6) (fun _ _ => rfl)) (po_some pe_int) po_none) (pe_tup (pa_cons (pe_call OL (hr.mono (by decide)) (by rfl) Le.m Le.F.kp Le.b .nil pass0 (pa_cons (pv 0) (pa_cons (pv 7) pa_nil))) pa_nil))) pa_nil)) pa_nil)))
      (pss_one (ps_expr (pe_bm PySem.F.plainAttrs_list PySem.F.slot_list_append PySem.F.type_list_append mt_append (pv 3) (pa_cons (pe_op op_catA (pe_op op_catA (pe_slice sl_tupA (pv 2) po_none (po_some (pv 6))) (pe_tup (pa_cons (pv 9) pa_nil))) (pe_slice sl_tupA (pv 2) (po_some (pe_op op_add (pv 6) pe_int)) po_none)) pa_nil))))) pss_nil))))))
      (pss_one (ps_ret (pv 3)))))), ?_⟩
    refine asg_seq ⟨(show 0 ≤ sizeLine by decide), fun fl nfl => ?_⟩
    have sF := same_new (o := .lst []) nfl
    have eF : (upd H fl (.lst [])) fl = some (.lst []) := upd_same
    generalize upd H fl (.lst []) = H1 at sF eF ⊢
    refine lc_mapT (a := q0) (xs := ws) ((g.es.map (·.name)).map V.str) (by simp; omega) (by omega) (tupS sF hq0) (fun R r => ⟨.ref pwd, rfl, pwd, _, 0, .ref q0, rfl, rfl, tupS sF hpw, atI_nat (j := 0) rfl, r⟩) (fun v => rfl) ?_ ?_
    · intro k x y G2 R hx hy sm kk
      obtain ⟨e, he, ⟨pe, qe, rfl, he1, _⟩⟩ := hE.get hx
      obtain ⟨n, hn, rfl⟩ := map_get hy
      obtain ⟨e', he', rfl⟩ := map_get hn
      obtain rfl : e = e' := Option.some.inj (he.symm.trans he')
      exact ⟨.ref pe, rfl, pe, _, 0, .str e.name, rfl, rfl, tupS (sF.trans sm) he1, atI_nat (j := 0) rfl, kk G2 (Same.refl G2)⟩
    intro nl G2 nnl sN eN
    refine ⟨.ref pwd, rfl, pwd, _, 1, .str g.asks, rfl, rfl, tupS (sF.trans sN) hpw, atI_nat (j := 1) rfl, .int p, rfl, (show 2 ≤ sizeLine by decide), fun t0 nt0 => ⟨(show 1 ≤ sizeLine by decide), fun sl nsl => ⟨(show 3 ≤ sizeLine by decide), fun tp ntp => ?_⟩⟩⟩
    have s1 := same_new (o := .tup [.str g.asks, .int p]) nt0
    have e1 : (upd G2 t0 (.tup [.str g.asks, .int p])) t0 = some (.tup [.str g.asks, .int p]) := upd_same
    generalize upd G2 t0 (.tup [.str g.asks, .int p]) = G3 at s1 e1 nsl ntp ⊢
    have s2 := same_new (o := .lst [.ref t0]) nsl
    have e2 : (upd G3 sl (.lst [.ref t0])) sl = some (.lst [.ref t0]) := upd_same
    have n1 : H sl = none := (sF.trans (sN.trans s1)).free nsl
    generalize upd G3 sl (.lst [.ref t0]) = G4 at s2 e2 ntp ⊢
    have s3 := same_new (o := .tup [.ref fl, .ref nl, .ref sl]) ntp
    have e3 : (upd G4 tp (.tup [.ref fl, .ref nl, .ref sl])) tp = some (.tup [.ref fl, .ref nl, .ref sl]) := upd_same
    generalize upd G4 tp (.tup [.ref fl, .ref nl, .ref sl]) = J0 at s3 e3 ⊢
    refine ⟨tp, _, rfl, .inl (.inl e3), rfl, _, _, rfl, _, _, rfl, _, _, rfl, rfl, ?_⟩
    dsimp only [gName, List.set]
    have sJ : Same H J0 := sF.trans (sN.trans (s1.trans (s2.trans s3)))
    have fJ : J0 fl = some (.lst []) := (sN.trans (s1.trans (s2.trans s3))) _ _ eF
    have nJ : J0 nl = some (.lst ((g.es.map (·.name)).map V.str)) := (s1.trans (s2.trans s3)) _ _ eN
    have lJ : J0 sl = some (.lst [.ref t0]) := s3 _ _ e2
    have pJ : PrsAt J0 [.ref t0] (sndrN g p S 0) := by
      unfold sndrN
      rw [List.take_zero]
      exact .cons ⟨t0, rfl, (s2.trans s3) _ _ e1⟩ .nil
    have nfl' : H fl = none := nfl
    have neF : fl ≠ sl := fun e => by
      rw [e, lJ] at fJ
      cases fJ
    have neN : nl ≠ sl := fun e => by
      have := ne_of_none ((s1) _ _ eN) nsl
      exact this e
    have neFN : fl ≠ nl := fun e => by
      have := ne_of_none eF nnl
      exact this e
    clear e3 s3 e2 s2 e1 s1 eN sN eF sF ntp nsl nt0 nnl
    refine seq_mid (fun σ G => ∃ (y6 y11 : Option V) (ys : List V), σ = [some (.ref pwd), some (.int p), some (.ref st), some (.ref fl), some (.ref nl), some (.ref sl), y6, none, none, none, none, y11] ∧ Same H G ∧ G fl = some (.lst []) ∧ G nl = some (.lst ((g.es.map (·.name)).map V.str)) ∧ G sl = some (.lst ys) ∧ PrsAt G ys (sndr g p S)) ?_ ?_
    · rintro σ G0 ⟨y6, y11, ys, rfl, sG, fG, nG, lG, pG⟩
      have ly := pG.len
      have lsn : (sndr g p S).length ≤ 33 := by
        have z := sndrN_len (g := g) (p := p) l8 S.length
        rw [sndrN_all (by omega)] at z
        omega
      refine ⟨.ref sl, rfl, sl, rfl, ⟨_, .inl (.inl lG)⟩, fun D0 nD => ?_⟩
      refine lc_sel (walk_list (K := K) (a := sl) (xs := ys)) (ys.zip (sndr g p S)) (fun c => if canB g c.2.1 c.2.2 = true then some c.1 else none) nD (by rw [List.length_zip]; omega) (by omega) (fun G s => .inl (.inl (s _ _ lG))) ?_ ?_
      · intro j x c G N Y hx hc sm no yes
        have hz := List.getElem?_zip_eq_some.mp hc
        obtain rfl : c.1 = x := Option.some.inj (hz.1.symm.trans hx)
        obtain ⟨d, hd, dp⟩ := dsAt (prs_dps (K := K) pG) j c.1 hx
        obtain ⟨s', hs', rfl⟩ := map_get hd
        obtain rfl : s' = c.2 := Option.some.inj (hs'.symm.trans hz.2)
        refine ⟨rfl, .ref pwd, rfl, c.1, rfl, .ref pwd, c.1, g, c.2, rfl, (pg.same sG).same sm, by omega, dKeep sm dp, known _ (List.mem_of_getElem? hz.2), fun G' s' => ⟨_, rfl, ?_⟩⟩
        cases z : canB g c.2.1 c.2.2
        · rw [z] at no
          exact iteF (no G' s' rfl)
        · rw [z] at yes
          exact iteT ⟨c.1, rfl, yes c.1 G' s' rfl⟩
      intro G1 s1 eD
      rw [fm_if] at eD
      have hcs := dps_filt (k := fun s : Str × Int => canB g s.1 s.2) (prs_dps (K := K) (pG.ts (ts_same s1)))
      generalize ecs : ((ys.zip (sndr g p S)).filter fun c => canB g c.2.1 c.2.2).map (·.1) = cs at eD hcs
      have sG1 := sG.trans s1
      have fG1 := s1 _ _ fG
      have nG1 := s1 _ _ nG
      have lcs : cs.length ≤ 33 := by
        rw [dsLen hcs, List.length_map]
        exact Nat.le_trans (List.length_filter_le _ _) lsn
      have neD : fl ≠ D0 := ne_of_none fG nD
      have memC : ∀ s ∈ (sndr g p S).filter (fun s => canB g s.1 s.2), s ∈ sndr g p S ∧ canB g s.1 s.2 = true := fun s hs => List.mem_filter.mp hs
      have memD : ∀ s ∈ sndr g p S, canB g s.1 s.2 = true → s ∈ (sndr g p S).filter (fun s => canB g s.1 s.2) := fun s h1 h2 => List.mem_filter.mpr ⟨h1, h2⟩
      generalize (sndr g p S).filter (fun s => canB g s.1 s.2) = ss at hcs memC memD
      have lss : ss.length = cs.length := by rw [dsLen hcs, List.length_map]
      clear ecs s1 nG fG lG pG sG ly
      refine ⟨D0, rfl, ⟨_, .inl (.inl eD)⟩, ?_⟩
      refine for_it (walk_list (K := K) (a := D0) (xs := cs)) (fun i σ G => ∃ (y6 y7 y8 y9 : Option V) (fs : List V) (Ss : List SS), σ = [some (.ref pwd), some (.int p), some (.ref st), some (.ref fl), some (.ref nl), some (.ref sl), y6, y7, y8, y9, none, y11] ∧ Same H G ∧ G D0 = some (.lst cs) ∧ DpAll K G cs (ss.map dPr) ∧ G nl = some (.lst ((g.es.map (·.name)).map V.str)) ∧ G fl = some (.lst fs) ∧ DpAll K G fs (Ss.map dS) ∧ Ss.length ≤ 5 * i ∧ PartOk g p S (fun s t => s ∈ ss.take i ∧ t ∈ lvOf g s) Ss)
        ⟨y6, none, none, none, [], [], rfl, sG1, eD, hcs, nG1, fG1, .nil, Nat.le_refl _, ⟨(fun T hT => by cases hT), (fun s t h => by rw [List.take_zero] at h; cases h.1)⟩⟩ (fun i σ G _ ⟨_, _, _, _, _, _, _, _, z, _⟩ => .inl (.inl z)) ?_ ?_
      · rintro i x σ G0' G hi ⟨y6, y7, y8, y9, fs, Ss, rfl, sG, eD, hcs, nG, fG, dfs, lSs, part⟩ ⟨rfl, hx⟩
        obtain ⟨d, hd, dpx⟩ := dsAt hcs i x hx
        obtain ⟨s, hs, rfl⟩ := map_get hd
        have hsm := memC s (List.mem_of_getElem? hs)
        obtain ⟨e, he, _, hf⟩ := can_is hsm.2
        have em := (row_is he).1
        have rl := gw.rows e em
        obtain ⟨px, xs, rfl, hpx, dxs, _⟩ := tupD (show Dp K G x (.tuple [.str s.1, .int s.2]) from dpx)
        obtain ⟨x1, xs1, rfl, z1, dxs⟩ : ∃ x1 xs1, xs = x1 :: xs1 ∧ x1 = .str s.1 ∧ DpAll K G xs1 [.int s.2] := by
          cases dxs with
          | cons a b => cases a; exact ⟨_, _, rfl, rfl, b⟩
        subst z1
        dsimp only [gName, List.set]
        refine ⟨.ref pwd, rfl, .ref px, rfl, px, _, 0, .str s.1, rfl, rfl, hpx, atI_nat (j := 0) rfl, .ref pwd, g, s.1, e, rfl, pg.same sG, by omega, he, fun r G1 s1 ent => ?_⟩
        obtain ⟨pe, qe, rfl, hpe, hqe⟩ := ent
        refine ⟨pe, _, 3, .ref qe, rfl, rfl, hpe, atI_nat (j := 3) rfl, qe, rfl, ⟨_, hqe⟩, ?_⟩
        have lve : lvOf g s = e.row.map fun k => (k, s.2 - e.fee) := by
          unfold lvOf
          rw [he]
        refine for_it (walk_tup (K := K) (a := qe) (xs := e.row.map V.str)) (fun j σ G => ∃ (y6 y8 y9 : Option V) (fs : List V) (Ss : List SS), σ = [some (.ref pwd), some (.int p), some (.ref st), some (.ref fl), some (.ref nl), some (.ref sl), y6, some (.ref px), y8, y9, none, y11] ∧ Same H G ∧ SqT K G qe (e.row.map V.str) ∧ Dp K G (.ref px) (dPr s) ∧ G D0 = some (.lst cs) ∧ DpAll K G cs (ss.map dPr) ∧ G nl = some (.lst ((g.es.map (·.name)).map V.str)) ∧ G fl = some (.lst fs) ∧ DpAll K G fs (Ss.map dS) ∧ Ss.length ≤ 5 * i + j ∧ PartOk g p S (fun s' t => (s' ∈ ss.take i ∧ t ∈ lvOf g s') ∨ (s' = s ∧ t ∈ (lvOf g s).take j)) Ss)
          ⟨y6, y8, y9, fs, Ss, rfl, sG.trans s1, hqe, dKeep s1 dpx, s1 _ _ eD, dsKeep s1 hcs, s1 _ _ nG, s1 _ _ fG, dsKeep s1 dfs, lSs, ⟨part.snd, fun s' t h => part.cmp s' t (by rcases h with h | h; exact h; rw [List.take_zero] at h; cases h.2)⟩⟩ (fun j σ G _ ⟨_, _, _, _, _, _, _, z, _⟩ => z) ?_ ?_
        · rintro j x σ G0' G hj ⟨y6, y8, y9, fs, Ss, rfl, sG, hqe, dpx, eD, hcs, nG, fG, dfs, lSs, part⟩ ⟨rfl, hx⟩
          obtain ⟨n, hn, rfl⟩ := map_get hx
          have inE := gw.tab e em n (List.mem_of_getElem? hn)
          obtain ⟨k, hk⟩ : ∃ k : Nat, (namesG g)[k]? = some n := List.mem_iff_getElem?.mp inE
          have klt := (List.getElem?_eq_some_iff.mp hk).1
          obtain ⟨l, hl⟩ : ∃ l, S[k]? = some l := ⟨_, List.getElem?_eq_getElem (by omega)⟩
          have ll8 := l8 l (List.mem_of_getElem? hl)
          obtain ⟨vl, hvl⟩ : ∃ vl, vs[k]? = some vl := ⟨_, List.getElem?_eq_getElem (by omega)⟩
          obtain ⟨d, hd, dvl⟩ := dsAt dvs k vl hvl
          obtain ⟨l', hl', rfl⟩ := map_get hd
          obtain rfl : l = l' := Option.some.inj (hl.symm.trans hl')
          obtain ⟨lt, xs, rfl, hlt, dxs, _⟩ := tupD (show Dp K H vl (.tuple (l.map PyData.int)) from dvl)
          have exs := ints_of dxs
          subst exs
          have tj : (lvOf g s)[j]? = some (n, s.2 - e.fee) := by rw [lve, List.getElem?_map, hn]; rfl
          have inL : (n, s.2 - e.fee) ∈ lvOf g s := List.mem_of_getElem? tj
          have sub : ∀ s' t, ((s' ∈ ss.take i ∧ t ∈ lvOf g s') ∨ (s' = s ∧ t ∈ (lvOf g s).take (j + 1))) → ((s' ∈ ss.take i ∧ t ∈ lvOf g s') ∨ (s' = s ∧ t ∈ (lvOf g s).take j)) ∨ t = (n, s.2 - e.fee) := fun s' t h => by
            rcases h with h | ⟨h1, h2⟩
            · exact .inl (.inl h)
            · rw [List.take_add_one, tj] at h2
              rcases List.mem_append.mp h2 with h2 | h2
              · exact .inl (.inr ⟨h1, h2⟩)
              · exact .inr (List.mem_singleton.mp h2)
          have jl : j < e.row.length := (List.getElem?_eq_some_iff.mp hn).1
          dsimp only [gName, List.set]
          refine asg_seq ⟨.ref nl, rfl, .inl ⟨rfl, _, .inl (.inl nG)⟩,   .str n, rfl, ?_⟩
          dsimp only [tNil]
          refine (show ∀ Q : VK, Q (.int ((k : Nat) : Int)) G → rIndex K (.ref nl) [.str n] G Q from fun Q h => ix_name (.inl (.inl nG)) nd hk h) _ ?_
          dsimp only [gName, List.set]
          refine ⟨1, rfl, .ref st, rfl, .int ((k : Nat) : Int), rfl, st, vs, ((k : Nat) : Int), _, rfl, rfl, tupS sG hst, atI_nat hvl, lt, l.map V.int, rfl, .inr (tupS sG hlt), rfl, flat_ints l, _, rfl, ?_⟩
          show if inV (.int (-1)) (l.map V.int) = true then _ else _
          rw [in_ints (-1) l]
          by_cases yes : (-1) ∈ l
          · rw [decide_eq_true yes]
            refine iteT ?_
            have tl : (l.map PyData.int).drop 1 = l.tail.map PyData.int := by
              match l with
              | [] => rfl
              | _ :: _ => rfl
            refine asg_seq ⟨.ref st, rfl, .int ((k : Nat) : Int), rfl, st, vs, ((k : Nat) : Int), _, rfl, rfl, tupS sG hst, atI_nat hvl, 1, rfl, ?_⟩
            dsimp only [tNoPart]
            refine slA_drop (k := 1) (ds := l.map PyData.int) (dKeep sG (show Dp K H (.ref lt) (.tuple (l.map PyData.int)) from dvl)) fun r1 G1 s1 d1 => ?_
            rw [tl] at d1
            refine ⟨.ref pwd, rfl, .ref px, rfl, .ref pwd, .ref px, g, s, e, rfl, pg.same (sG.trans s1), by omega, dKeep s1 dpx, he, fun G2 s2 => ⟨(show 1 ≤ sizeLine by decide), fun t1 nt1 => ?_⟩⟩
            have sT := same_new (o := .tup [.int (s.2 - e.fee)]) nt1
            have dT : Dp K (upd G2 t1 (.tup [.int (s.2 - e.fee)])) (.ref t1) (.tuple [.int (s.2 - e.fee)]) := .tup (.inl (.inl upd_same)) (.cons (.int _) .nil)
            refine catA (dKeep (s2.trans sT) d1) dT (by rw [List.length_map, List.length_tail]; show l.length - 1 + 1 ≤ 1000; omega) fun r2 G3 s3 d3 => ?_
            have e3 : l.tail.map PyData.int ++ [PyData.int (s.2 - e.fee)] = (l.tail ++ [s.2 - e.fee]).map PyData.int := by rw [List.map_append]; rfl
            rw [e3] at d3
            obtain ⟨a2, xs2, rfl, h2, dx2, _⟩ := tupD d3
            have ex2 := ints_of dx2
            subst ex2
            refine ⟨a2, _, rfl, h2, fun late l2 pm srt n2 => ⟨l2, _, rfl, .inl ⟨.inl (.inl upd_same), fun t2 nt2 => ?_⟩⟩⟩
            have sL := same_new (o := .lst (late.map V.int)) n2
            have st2 := same_new (o := .tup (late.map V.int)) nt2
            have s06 := (s1.trans (s2.trans sT)).trans (s3.trans (sL.trans st2))
            have e2 : (upd (upd G3 l2 (.lst (late.map V.int))) t2 (.tup (late.map V.int))) t2 = some (.tup (late.map V.int)) := upd_same
            have sG6 := sG.trans s06
            have hqe6 := tupS s06 hqe
            have dpx6 := dKeep s06 dpx
            have eD6 := s06 _ _ eD
            have hcs6 := dsKeep s06 hcs
            have nG6 := s06 _ _ nG
            have fG6 := s06 _ _ fG
            have dfs6 := dsKeep s06 dfs
            generalize upd (upd G3 l2 (.lst (late.map V.int))) t2 (.tup (late.map V.int)) = G6 at e2 sG6 hqe6 dpx6 eD6 hcs6 nG6 fG6 dfs6 ⊢
            clear s06 st2 sL n2 nt2 h2 dx2 d3 dT sT nt1 s3 s2 s1 d1 sG hqe dpx eD hcs nG fG dfs
            dsimp only [gName, List.set]
            have lS2 : (S.map dI).length = S.length := List.length_map ..
            refine ⟨.ref fl, rfl, .inl ⟨rfl, _, .inl (.inl fG6)⟩, .ref st, rfl, .int ((k : Nat) : Int), rfl, ((k : Nat) : Int), rfl, slA_take (k := k) (ds := S.map dI) (dKeep sG6 (show Dp K H (.ref st) (.tuple (S.map dI)) from dv)) (by omega) fun r3 G7 s7 d7 => ⟨.ref t2, rfl, (show 1 ≤ sizeLine by decide), fun t3 nt3 => ?_⟩⟩
            have s8 := same_new (o := .tup [.ref t2]) nt3
            have dt3 : Dp K (upd G7 t3 (.tup [.ref t2])) (.ref t3) (.tuple [dI late]) := .tup (.inl (.inl upd_same)) (.cons (.tup (.inl (.inl ((s7.trans s8) _ _ e2))) (dp_ints late)) .nil)
            refine catA (ds := (S.map dI).take k) (es := [dI late]) (dKeep s8 d7) dt3 (by rw [List.length_take]; show _ + 1 ≤ 1000; omega) fun r4 G9 s9 d9 => ?_
            have s79 := s7.trans (s8.trans s9)
            refine ⟨.ref st, rfl, .int ((k : Nat) : Int), rfl, ((k : Nat) : Int), 1, rfl, rfl, ((k : Nat) : Int) + 1, rfl, ?_⟩
            dsimp only [tNoPart]
            refine slA_drop (k := k + 1) (ds := S.map dI) (dKeep (sG6.trans s79) (show Dp K H (.ref st) (.tuple (S.map dI)) from dv)) fun r5 GA sA dA => ?_
            refine catA (dKeep sA d9) dA (by rw [List.length_append, List.length_take, List.length_drop]; show _ + 1 + _ ≤ 1000; omega) fun r6 GB sB dB => ?_
            have s7B := s79.trans (sA.trans sB)
            have e6 : (S.map dI).take k ++ [dI late] ++ (S.map dI).drop (k + 1) = (S.set k late).map dI := by
              rw [List.map_set, List.set_eq_take_append_cons_drop, if_pos (by rw [lS2]; omega), List.append_assoc]
              rfl
            rw [e6] at dB
            have fGB := s7B _ _ fG6
            have lfs : fs.length = Ss.length := by rw [dsLen dfs6, List.length_map]
            have row5 : e.row.length ≤ 5 := rl
            dsimp only [tNil]
            refine ⟨fl, fs, _, rfl, rfl, fGB, Nat.lt_of_lt_of_le (show fs.length < 1001 by omega) (by decide), ?_⟩
            refine ⟨_, _, _, fs ++ [r6], Ss ++ [S.set k late], rfl, putS (sG6.trans s7B) nfl', tupT (ts_lst fGB) (tupS s7B hqe6), ?_, ?_, ?_, ?_, upd_same, ?_, ?_, ?_⟩
            · exact pr_ts (ts_lst fGB) (dKeep s7B dpx6)
            · rw [upd_ne neD.symm]
              exact s7B _ _ eD6
            · exact prsD_ts (ts_lst fGB) (dsKeep s7B hcs6)
            · rw [upd_ne neFN.symm]
              exact s7B _ _ nG6
            · rw [List.map_append]
              exact dsApp (sts_ts (ts_lst fGB) (dsKeep s7B dfs6)) (sts_ts (Ss := [S.set k late]) (ts_lst fGB) (.cons dB .nil))
            · rw [List.length_append]
              show Ss.length + 1 ≤ _
              omega
            · exact part.add gw (s0 := s) (t0 := (n, s.2 - e.fee)) hsm.1 hsm.2 inL hk hl yes pm sub
          · rw [decide_eq_false yes]
            exact iteF ⟨_, _, _, fs, Ss, rfl, sG, hqe, dpx, eD, hcs, nG, fG, dfs, by omega, part.skip gw (t0 := (n, s.2 - e.fee)) hk hl yes sub⟩
        · rintro σ G ⟨y6, y8, y9, fs, Ss, rfl, sG, hqe, dpx, eD, hcs, nG, fG, dfs, lSs, part⟩
          refine ⟨_, _, _, _, fs, Ss, rfl, sG, eD, hcs, nG, fG, dfs, by rw [List.length_map] at lSs; omega, ⟨part.snd, fun s' t h => part.cmp s' t ?_⟩⟩
          rw [List.take_add_one, hs] at h
          rcases List.mem_append.mp h.1 with z | z
          · exact .inl ⟨z, h.2⟩
          · obtain rfl := List.mem_singleton.mp z
            refine .inr ⟨rfl, ?_⟩
            rw [List.length_map, List.take_of_length_le (by rw [lve, List.length_map]; exact Nat.le_refl _)]
            exact h.2
      · rintro σ G ⟨y6, y7, y8, y9, fs, Ss, rfl, sG, eD, hcs, nG, fG, dfs, lSs, part⟩
        refine ⟨.ref fl, rfl, q fl fs Ss G sG nfl' fG dfs (by omega) ⟨part.snd, fun s hs hc t ht => part.cmp s t ⟨?_, ht⟩⟩⟩
        rw [← lss, List.take_length]
        exact memD s hs hc
    · intro R k
      refine ⟨.ref st, rfl, st, vs, rfl, .inr (tupS sJ hst), _, rfl, by omega, by omega, ?_⟩
      refine for_range (lo := 0) (n := ((vs.length : Nat) : Int).toNat) (fun j σ G => ∃ (y6 y11 : Option V) (ys : List V), σ = [some (.ref pwd), some (.int p), some (.ref st), some (.ref fl), some (.ref nl), some (.ref sl), y6, none, none, none, none, y11] ∧ Same H G ∧ G fl = some (.lst []) ∧ G nl = some (.lst ((g.es.map (·.name)).map V.str)) ∧ G sl = some (.lst ys) ∧ PrsAt G ys (sndrN g p S j)) ⟨none, none, _, rfl, sJ, fJ, nJ, lJ, pJ⟩ ?_ ?_
      · rintro j σ G hj ⟨y6, y11, ys, rfl, sG, fG, nG, lG, pG⟩
        have hj : j < vs.length := by omega
        obtain ⟨l, hl⟩ : ∃ l, S[j]? = some l := ⟨_, List.getElem?_eq_getElem (by omega)⟩
        obtain ⟨n, hn⟩ : ∃ n, (namesG g)[j]? = some n := ⟨_, List.getElem?_eq_getElem (by omega)⟩
        obtain ⟨vl, hvl⟩ : ∃ vl, vs[j]? = some vl := ⟨_, List.getElem?_eq_getElem hj⟩
        obtain ⟨d, hd, dvl⟩ := dsAt dvs j vl hvl
        obtain ⟨l', hl', rfl⟩ := map_get hd
        obtain rfl : l = l' := Option.some.inj (hl.symm.trans hl')
        obtain ⟨lt, xs, rfl, hlt, dxs, _⟩ := tupD dvl
        have exs := ints_of dxs
        subst exs
        have ll8 := l8 l (List.mem_of_getElem? hl)
        rw [Int.zero_add]
        dsimp only [gName, List.set]
        refine ⟨.ref sl, rfl, .inl ⟨rfl, _, .inl (.inl lG)⟩, .ref st, rfl, .int ((j : Nat) : Int), rfl, st, vs, ((j : Nat) : Int), _, rfl, rfl, tupS sG hst, atI_nat hvl, lt, rfl, ⟨_, tupS sG hlt⟩, fun D nD => ?_⟩
        refine lc_it (walk_tup (K := K) (a := lt) (xs := l.map V.int)) (fun i G2 => Same G G2 ∧ ∃ acc, G2 D = some (.lst acc) ∧ PrsAt G2 acc ((l.take i).map fun m => (n, m))) ⟨same_new nD, [], upd_same, .nil⟩ (fun i G2 _ h => tupS (sG.trans h.1) hlt) ?_ ?_
        · rintro i x G2 G2' hi ⟨sm, acc, eD, hacc⟩ ⟨rfl, hx⟩
          obtain ⟨m, hm, rfl⟩ := map_get hx
          refine ⟨rfl, .ref nl, rfl, .int ((j : Nat) : Int), rfl, nl, _, ((j : Nat) : Int), .str n, rfl, rfl, .inl (.inl (sm _ _ nG)), atI_nat (j := j) (by rw [List.getElem?_map, show (g.es.map (·.name))[j]? = some n from hn]; rfl), .int m, rfl, (show 2 ≤ sizeLine by decide), fun t nt => ?_⟩
          have sT := same_new (o := .tup [V.str n, V.int m]) nt
          have eD2 := sT _ _ eD
          have la : acc.length ≤ 8 := by
            rw [hacc.len, List.length_map]
            have := List.length_take_le' (i := i) (l := l)
            omega
          have eT : (upd G2' t (.tup [V.str n, V.int m])) t = some (.tup [V.str n, V.int m]) := upd_same
          refine ⟨acc, eD2, small' (by omega), putS (sm.trans sT) nD, _, upd_same, ?_⟩
          have tk : (l.take (i + 1)).map (fun m => (n, m)) = (l.take i).map (fun m => (n, m)) ++ [(n, m)] := by
            rw [List.take_add_one, hm, List.map_append]
            rfl
          rw [tk]
          exact ((hacc.ts (ts_same sT)).ts (ts_lst eD2)).app (.cons ⟨t, rfl, by rw [upd_ne (ne_of eT eD2 (by intro z; cases z))]; exact eT⟩ .nil)
        · rintro G2 ⟨sm, acc, eD, hacc⟩
          rw [List.length_map, List.take_length] at hacc
          have ly := pG.len
          have l1 := sndrN_len (g := g) (p := p) l8 j
          have la := hacc.len
          rw [List.length_map] at la
          have lG2 := sm _ _ lG
          refine ⟨sl, D, ys, acc, rfl, rfl, lG2, eD, Nat.le_trans (show ys.length + acc.length ≤ 1000 by omega) (by decide), ?_⟩
          refine ⟨_, _, ys ++ acc, rfl, putS (sG.trans sm) n1, ?_, ?_, upd_same, ?_⟩
          · rw [upd_ne neF]
            exact sm _ _ fG
          · rw [upd_ne neN]
            exact sm _ _ nG
          · rw [sndrN_next hn hl]
            exact ((pG.ts (ts_same sm)).ts (ts_lst lG2)).app (hacc.ts (ts_lst lG2))
      · rintro σ G ⟨y6, y11, ys, rfl, sG, fG, nG, lG, pG⟩
        rw [show ((vs.length : Nat) : Int).toNat = S.length by omega, sndrN_all (by omega)] at pG
        exact k _ _ ⟨_, _, _, rfl, sG, fG, nG, lG, pG⟩
end
end Kn


/-! Kn: a tuple times a number from 0 on. -/
namespace Kn
open PySem PySem.Spec PyProof.Rows L2
section
variable {X : Cx}
theorem tuple_mulW0 (l : Addr) (items : Array Value) (n : Nat) (dd : Option Addr) (sl : Array (Option Value)) (u : Tok) (c1 : (items.isEmpty || (0 : Int) == 1) = false) :
    Meets (Builtin.«tuple.__mul__» ⟨[.ref l, .int 0 u], []⟩) (fun _ R s => s.heap.get? l = some { cls := .type "tuple", dict := dd, data := .seq items n, slots := sl } ∧
      R (.ok (.ret (Value.ref s.heap.objs.size))) { s with heap := s.heap.push { cls := Value.type "tuple", data := Data.seq #[] } }) :=
  .of_wp fun prog w A R s h => by
    obtain ⟨hp, g, d, tk, os⟩ := s
    obtain ⟨hl, h⟩ := h
    have f1 := AutoSeq1.idx_int
    wp_walk using wpAny_loadPart' hl
    repeat (first
      | (refine wpAny_ite_false (decide_eq_false (by rw [c1]; exact Bool.false_ne_true)) ?_; wp_walk using wpAny_loadPart' hl)
      | (refine wpAny_ite_true (decide_eq_true (by decide)) ?_; wp_walk using wpAny_loadPart' hl))
    all_goals exact ⟨_, rfl, h⟩
def rMulN (K : PySem.W.Frag) : R2 := fun x y H Q => ∃ l k xs, x = .ref l ∧ y = .int k ∧ SqT K H l xs ∧ xs ≠ [] ∧ 0 ≤ k ∧ k ≤ 1000 ∧ xs.length ≤ 1000 ∧ ∀ r H', Same H H' → SqT K H' r (List.replicate k.toNat xs).flatten → Q (.ref r) H'
theorem op_mulN0 : OpR X (binaryOp .Mult) (rMulN X.K) := by
  intro pins s σ H x y v u Q I rx ry h
  obtain ⟨l, k, xs, rfl, rfl, hT, hne, h1, h2, hz, q⟩ := h
  by_cases k0 : k = 0
  · subst k0
    cases rx
    obtain ⟨t, rfl⟩ := ry
    obtain ⟨its, r, ⟨⟨cls, dd, data, sl⟩, ho, hc, n, hd⟩, hs⟩ := I.tuple hT
    simp only at hc hd
    subst hc hd
    have hn : its ≠ [] := fun e => hne (by
      have := r.length
      rw [e] at this
      exact List.eq_nil_of_length_eq_zero this)
    have c1 : (its.toArray.isEmpty || (0 : Int) == 1) = false := by
      cases its with
      | nil => exact absurd rfl hn
      | cons a b => rfl
    refine wpAny_binaryOp_repeat_ref (T := "tuple") (U := "int") (by decide) ⟨_, ho, rfl⟩ (fun s' => typeIs_int s' 0 t) noFill_tuple_mul F.fills_int_mul F.slot_int_rmul repeat_tuple F.slot_int_index.lookup
      (call_meets F.slot_int_rmul (typeIs_int s 0 t) F.entry_int_rmul (F.args_int_rmul_2 _ _) (int_rmul_tuple 0 t l its.toArray n dd sl)
        ⟨ho, rfl, ⟨_, ho, rfl⟩, call_meets F.slot_tuple_mul ⟨_, ho, rfl⟩ F.entry_tuple_mul (F.args_tuple_mul_2 _ _) (tuple_mulW0 l its.toArray n dd sl t c1) ⟨ho, ?_⟩⟩)
    have hp := I.hok.fresh (Nat.le_refl s.heap.objs.size)
    refine ⟨.ref s.heap.objs.size, _, I.laid (t' := s.toks) (o := .tup []) (fun b ob q => Heap.get?_push_of_some _ q) (Nat.le_refl _) ?_, rfl, q _ _ (same_new hp) (.inl (.inl upd_same))⟩
    exact ⟨Nat.zero_le _, [], .nil, IsTup.new _ _⟩
  · refine op_mulT pins s σ H _ _ v u Q I rx ry ⟨l, k, xs, rfl, rfl, hT, hne, by omega, h2, hz, fun e => ?_, fun p np => q p _ (same_new np) (.inl (.inl upd_same))⟩
    subst e
    refine q l H (Same.refl H) ?_
    rw [show (List.replicate (1 : Int).toNat xs).flatten = xs by simp [show (1 : Int).toNat = 1 from rfl]]
    exact hT
end
end Kn


namespace Kn
open PySem PySem.Spec PyProof.Rows L2
abbrev nSs : List Str := ["_law_net", "_law_sizes", "_law_power", "_law_k", "_law_begun", "_law_lot", "_law_seen", "_law_ends", "_law_after_here", "_law_late"]
theorem scSs : FnScope nSs ["_law_net", "_law_sizes", "_law_power"] (defScope (topS 34)) := ⟨rfl, rfl, rfl, by decide +kernel, rfl, by decide +kernel, by decide +kernel⟩
/-- the stores of each kind but the asking one -/
def szOf (g : Pg) (s0 : List Nat) : List Nat := ((namesG g).zip s0).map fun x => if x.1 = g.asks then x.2 - 1 else x.2
def begunS (sz : List Nat) : SS := sz.map fun n => List.replicate n (-1 : Int)
def Over (g : Pg) (p : Int) (S : SS) : Prop := ∀ s ∈ sndr g p S, canB g s.1 s.2 = true → ∀ t ∈ lvOf g s, ∀ (k : Nat) (l : List Int), (namesG g)[k]? = some t.1 → S[k]? = some l → (-1) ∉ l
theorem AfterOk.over {g : Pg} {p : Int} {S : SS} {Ss : List SS} (h : AfterOk g p S Ss) : Over g p S ↔ Ss = [] := by
  constructor
  · intro o
    refine List.eq_nil_iff_forall_not_mem.mpr fun T hT => ?_
    obtain ⟨s, hs, c, t, ht, k, l, late, h1, h2, h3, _⟩ := h.snd T hT
    exact o s hs c t ht k l h1 h2 h3
  · rintro rfl s hs c t ht k l h1 h2 h3
    obtain ⟨_, _, z⟩ := h.cmp s hs c t ht k l h1 h2 h3
    cases z
theorem kL_data (l : List Int) : (kL l).data = dI l := by
  show PyData.tuple (NestedKey.datas (l.map NestedKey.num)) = _
  rw [datas_nums]
  rfl
theorem dIs_keep {K : PySem.W.Frag} {H H' : Hp} (t : ∀ p xs, SqT K H p xs → SqT K H' p xs) : ∀ {vs : List V} {ls : SS}, DpAll K H vs (ls.map dI) → DpAll K H' vs (ls.map dI)
  | _, [], .nil => .nil
  | _, l :: r, .cons a b => .cons (by rw [← kL_data] at a ⊢; exact key_dp t _ _ a) (dIs_keep t b)
theorem sts_keep {K : PySem.W.Frag} {H H' : Hp} (t : ∀ p xs, SqT K H p xs → SqT K H' p xs) : ∀ {vs : List V} {Ss : List SS}, DpAll K H vs (Ss.map dS) → DpAll K H' vs (Ss.map dS)
  | _, [], .nil => .nil
  | _, S :: r, .cons a b => .cons (by rw [← kS_data] at a ⊢; exact key_dp t _ _ a) (sts_keep t b)
theorem rep_ints (n : Nat) : (List.replicate n [V.int (-1)]).flatten = (List.replicate n (-1 : Int)).map V.int := by
  induction n with
  | zero => rfl
  | succ n ih =>
    rw [List.replicate_succ, List.flatten_cons, ih, List.replicate_succ, List.map_cons]
    rfl
theorem val_in {kvs : List (NestedKey × V)} {k : NestedKey} : (valV kvs k).isSome = decide (k ∈ kvs.map (·.1)) := by
  rw [← valV_any, Bool.eq_iff_iff, List.any_eq_true]
  constructor
  · rintro ⟨x, hx, e⟩
    exact decide_eq_true (List.mem_map.mpr ⟨x, hx, of_decide_eq_true e⟩)
  · intro h
    obtain ⟨x, hx, e⟩ := List.mem_map.mp (of_decide_eq_true h)
    exact ⟨x, hx, decide_eq_true e⟩
theorem keys_in {L : List SS} {S : SS} : kS S ∈ L.map kS ↔ S ∈ L :=
  ⟨fun h => by obtain ⟨T, hT, e⟩ := List.mem_map.mp h; exact kS_inj e ▸ hT, fun h => List.mem_map.mpr ⟨S, h, rfl⟩⟩
theorem szOf_at {g : Pg} {s0 : List Nat} {k : Nat} {n : Str} {x : Nat} (h1 : (namesG g)[k]? = some n) (h2 : s0[k]? = some x) : (szOf g s0)[k]? = some (if n = g.asks then x - 1 else x) := by
  unfold szOf
  rw [List.getElem?_map, List.getElem?_zip_eq_some.mpr (by exact ⟨h1, h2⟩ : (namesG g)[k]? = some (n, x).1 ∧ s0[k]? = some (n, x).2)]
  rfl
theorem szOf_len {g : Pg} {s0 : List Nat} (h : s0.length = g.es.length) : (szOf g s0).length = g.es.length := by
  unfold szOf
  rw [List.length_map, List.length_zip, h, show (namesG g).length = g.es.length from List.length_map .., Nat.min_self]
theorem begun_shp {g : Pg} {p : Int} {sz : List Nat} : Shp g p sz (begunS sz) := by
  refine ⟨?_, fun k l n hk _ m hm => ?_⟩
  · unfold begunS
    rw [List.map_map]
    have : (List.length ∘ fun n => List.replicate n (-1 : Int)) = id := by
      funext n
      exact List.length_replicate
    rw [this, List.map_id]
  · unfold begunS at hk
    rw [List.getElem?_map] at hk
    cases z : sz[k]? with
    | none => rw [z] at hk; cases hk
    | some x =>
      rw [z] at hk
      obtain rfl : List.replicate x (-1) = l := Option.some.inj hk
      exact .inl (List.mem_replicate.mp hm).2
def Done (g : Pg) (p : Int) (L : List SS) (S : SS) : Prop := ∀ s ∈ sndr g p S, canB g s.1 s.2 = true → ∀ t ∈ lvOf g s, ∀ (k : Nat) (l : List Int), (namesG g)[k]? = some t.1 → S[k]? = some l → (-1) ∈ l → ∃ late : List Int, late.Perm (l.tail ++ [t.2]) ∧ S.set k late ∈ L
theorem mem_sum : ∀ {l : List Nat} {n : Nat}, n ∈ l → n ≤ l.sum
  | x :: r, n, h => by
    rw [List.sum_cons]
    rcases List.mem_cons.mp h with rfl | h
    · omega
    · have := mem_sum h
      omega
theorem Shp.l8 {g : Pg} {p : Int} {sz : List Nat} {S : SS} (h : Shp g p sz S) (s8 : sz.sum ≤ 8) : ∀ l ∈ S, l.length ≤ 8 := fun l hl => by
  have : l.length ∈ sz := by
    rw [← h.l]
    exact List.mem_map.mpr ⟨l, hl, rfl⟩
  have := mem_sum this
  omega
theorem Shp.dig {g : Pg} (G : GW g) {p : Int} (p6 : p ≤ 6) {sz : List Nat} (nl : sz.length ≤ (namesG g).length) {S : SS} (h : Shp g p sz S) : ∀ l ∈ S, ∀ m ∈ l, -1 ≤ m ∧ m ≤ 5 := fun l hl m hm => by
  obtain ⟨k, hk⟩ := List.mem_iff_getElem?.mp hl
  have kl : k < S.length := (List.getElem?_eq_some_iff.mp hk).1
  have e : S.length = sz.length := by rw [← h.l, List.length_map]
  obtain ⟨n, hn⟩ : ∃ n, (namesG g)[k]? = some n := ⟨_, List.getElem?_eq_getElem (by omega)⟩
  rcases h.mks k l n hk hn m hm with z | z
  · omega
  · have h1 := z.pos
    have h2 := (z.lt G).1
    dsimp only at h1 h2
    omega
theorem good_ints : ∀ {l : List Int}, (∀ m ∈ l, -1 ≤ m ∧ m ≤ 5) → goodDs (l.map PyData.int) = true ∧ PyData.depthAll (l.map PyData.int) = 0
  | [], _ => ⟨rfl, rfl⟩
  | m :: r, h => by
    obtain ⟨a, b⟩ := good_ints (l := r) fun x hx => h x (List.mem_cons_of_mem _ hx)
    have z := h m (List.mem_cons_self ..)
    refine ⟨?_, ?_⟩
    · show (goodD (.int m) && goodDs (r.map PyData.int)) = true
      rw [int_good (by omega), a]
      rfl
    · show max 0 (PyData.depthAll (r.map PyData.int)) = 0
      omega
theorem good_dIs : ∀ {S : SS}, (∀ l ∈ S, ∀ m ∈ l, -1 ≤ m ∧ m ≤ 5) → goodDs (S.map dI) = true ∧ PyData.depthAll (S.map dI) ≤ 1
  | [], _ => ⟨rfl, Nat.zero_le _⟩
  | l :: r, h => by
    obtain ⟨a, b⟩ := good_dIs (S := r) fun x hx => h x (List.mem_cons_of_mem _ hx)
    obtain ⟨c, d⟩ := good_ints (h l (List.mem_cons_self ..))
    refine ⟨?_, ?_⟩
    · show (goodDs (l.map PyData.int) && goodDs (r.map dI)) = true
      rw [c, a]
      rfl
    · show max (PyData.depthAll (l.map PyData.int) + 1) (PyData.depthAll (r.map dI)) ≤ 1
      omega
theorem good_dSs : ∀ {Ss : List SS}, (∀ S ∈ Ss, ∀ l ∈ S, ∀ m ∈ l, -1 ≤ m ∧ m ≤ 5) → goodDs (Ss.map dS) = true ∧ PyData.depthAll (Ss.map dS) ≤ 2
  | [], _ => ⟨rfl, Nat.zero_le _⟩
  | S :: r, h => by
    obtain ⟨a, b⟩ := good_dSs (Ss := r) fun x hx => h x (List.mem_cons_of_mem _ hx)
    obtain ⟨c, d⟩ := good_dIs (h S (List.mem_cons_self ..))
    refine ⟨?_, ?_⟩
    · show (goodDs (S.map dI) && goodDs (r.map dS)) = true
      rw [c, a]
      rfl
    · show max (PyData.depthAll (S.map dI) + 1) (PyData.depthAll (r.map dS)) ≤ 2
      omega
theorem eqv_nilS (Ss : List SS) : PyData.eqv (.list (Ss.map dS)) (.list []) = decide (Ss = []) := by
  cases Ss with
  | nil => rfl
  | cons a r => rfl
def spSs (P : Program) (w : World) (K : PySem.W.Frag) : Sp := fun vs H Q _ => ∃ (w0 : V) (g : Pg) (p : Int) (z : Addr) (s0 : List Nat), vs = [w0, .ref z, .int p] ∧ PgAt K H w0 g ∧ GW g ∧ p ≤ 6 ∧ SqT K H z (s0.map fun n => V.int ((n : Nat) : Int)) ∧ s0.length = g.es.length ∧ (∀ n ∈ s0, 1 ≤ n ∧ n ≤ 8) ∧ (szOf g s0).sum ≤ 8 ∧
  ∀ (t l e : Addr) (ys es : List V) (L Es : List SS) (H' : Hp), Same H H' → H l = none → H' t = some (.tup [.ref l, .ref e]) → H' l = some (.lst ys) → DpAll K H' ys (L.map dS) → H' e = some (.lst es) → DpAll K H' es (Es.map dS) → Clo g p (szOf g s0) L → L.length ≤ 5764801 → (∀ S, S ∈ Es ↔ S ∈ L ∧ Over g p S) → Q (.ref t) H'
section
variable {P : Program} {w : World} {K : PySem.W.Frag} {mg : Str → Option Value} {base : Heap}
theorem ok_ss {f fA : Addr} {fd fdA : FuncData} (F : Fun K "_law_states" "_law_states" (topS 34) f fd) (Af : Def K mg "_law_after" 33 ["_law_net", "_law_power", "_law_state"] fA fdA) (OA : FnOk P w K mg base CX0 3 fA fdA ["_law_net", "_law_power", "_law_state"] (spAf K))
    (mt : mg "tuple" = none) (mr : mg "range" = none) (ml : mg "len" = none) (mi : mg "int" = none) :
    FnOk P w K mg base CX0 4 f fd ["_law_net", "_law_sizes", "_law_power"] (spSs P w K) := by
  refine F.ok scSs (fun vs H Q E h => ?_) (fun cdv A outer s H vs Q E hr h => ?_)
  · obtain ⟨w0, g, p, z, s0, rfl, _⟩ := h
    rfl
  · obtain ⟨w0, g, p, z, s0, rfl, pg, gw, p6, hz, ls0, s18, sum8, q⟩ := h
    have few := gw.few
    have lnm : (namesG g).length = g.es.length := List.length_map ..
    obtain ⟨pwd, q0, ws, rfl, hpw, hq0, hE⟩ := id pg
    have lws := hE.len
    have lsz := szOf_len ls0
    refine ⟨_, (pss_cons (ps_set (i := 4) scSs.nd rfl (.inl rfl) (pe_callTy call_tuple_of (by rfl) mt (by decide +kernel) (pa_cons (pe_lc (own := [("_law_k", 3)]) (g := gName 3) (by rfl) scSs.nd (pi_range1 (by rfl) mr (pa_cons (pe_callB call_len_seq (by rfl) ml PySem.boot_len (pa_cons (pv 1) pa_nil)) pa_nil)) (blkOk_by (own := [("_law_k", 3)]) (N := nSs) (sc := defScope (topS 34)) (by decide +kernel)) (fun _ _ _ _ _ => (pg_name (i := 3) scSs.nd rfl (Or.inl rfl))) (fun _ _ _ _ _ => pts_nil) (fun _ _ _ _ _ => (pe_op (r := rMulN K) op_mulN0 (pe_tup (pa_cons (pe_un un_neg pe_int) pa_nil)) (pe_op op_sub (pe_ix (r := rIxT K) ix_tup (pv 1) (pv 3) (fun _ _ => rfl)) (pe_callTy call_int1 (by rfl) mi boot_int (pa_cons (pe_cmpR op_eq (pe_ix (r := rIxT K) ix_tup (pe_ix (r := rIxT K) ix_tup (pe_ix (r := rIxT K) ix_tup (pv 0) pe_int (fun _ _ => rfl)) (pv 3) (fun _ _ => rfl)) pe_int (fun _ _ => rfl)) (pe_ix (r := rIxT K) ix_tup (pv 0) pe_int (fun _ _ => rfl)) (nomark _)) pa_nil)))))) pa_nil)))
      (pss_cons (ps_asg (pe_tup (pa_cons (pe_lst (pa_cons (pv 4) pa_nil)) (pa_cons (pe_disp1N hr.units (pv 4) pe_bl) (pa_cons (pe_lst pa_nil) (pa_cons pe_int pa_nil))))) (pg_tup (by rfl) (pgs_cons (pg_name (i := 5) scSs.nd rfl (.inl rfl)) (pgs_cons (pg_name (i := 6) scSs.nd rfl (.inl rfl)) (pgs_cons (pg_name (i := 7) scSs.nd rfl (.inl rfl)) (pgs_cons (pg_name (i := 3) scSs.nd rfl (.inl rfl)) pgs_nil))))))
      (pss_cons (ps_while PassesOwn.never (pt_cmpR op_lt (pv 3) (pe_callB call_len_seq (by rfl) ml PySem.boot_len (pa_cons (pv 5) pa_nil)) (nomark _)) (pss_cons (ps_set (i := 8) scSs.nd rfl (.inl rfl) (pe_call OA (hr.mono (by decide)) (by rfl) Af.m Af.F.kp Af.b .nil pass0 (pa_cons (pv 0) (pa_cons (pv 2) (pa_cons (pe_ix ix_list (pv 5) (pv 3) (fun _ _ => rfl)) pa_nil)))))
      (pss_cons (ps_expr (pe_bm PySem.F.plainAttrs_list PySem.F.slot_list_extend PySem.F.type_list_extend mt_extend (pv 7) (pa_cons (pe_slice sl_list (pe_lst (pa_cons (pe_ix ix_list (pv 5) (pv 3) (fun _ _ => rfl)) pa_nil)) po_none (po_some (pe_ifExp (pt_cmpR (op_eqD hr.units) (pv 8) (pe_lst pa_nil) (nomark _)) pe_int pe_int))) pa_nil)))
      (pss_cons (ps_for PassesOwn.never rfl (pi_list (pv 8)) (pg_name (i := 9) scSs.nd rfl (.inl rfl)) (pss_one (ps_if (pt_cmpR (op_notInN hr.units) (pv 9) (pv 6) (by rfl)) (pss_cons (ps_asg pe_bl (pg_sub (pv 6) (pv 9) (set_nd hr.units)))
      (pss_one (ps_expr (pe_bm PySem.F.plainAttrs_list PySem.F.slot_list_append PySem.F.type_list_append mt_append (pv 5) (pa_cons (pv 9) pa_nil))))) pss_nil)))
      (pss_one (ps_set (i := 3) scSs.nd rfl (.inl rfl) (pe_op op_add (pv 3) pe_int)))))))
      (pss_one (ps_ret (pe_tup (pa_cons (pv 5) (pa_cons (pv 7) pa_nil)))))))), ?_⟩
    refine asg_seq ⟨.ref z, rfl, z, _, rfl, .inr hz, _, rfl, by rw [List.length_map]; omega, by rw [List.length_map]; omega, fun D nD => ?_⟩
    refine lc_range (lo := 0) (n := (((s0.map fun n => V.int ((n : Nat) : Int)).length : Nat) : Int).toNat) (fun k G2 => Same H G2 ∧ ∃ acc, G2 D = some (.lst acc) ∧ DpAll K G2 acc ((begunS ((szOf g s0).take k)).map dI)) ⟨same_new nD, [], upd_same, .nil⟩ ?_ ?_
    · rintro k G2 hk ⟨sm, acc, eD, hacc⟩
      have hk : k < s0.length := by rw [List.length_map] at hk; omega
      obtain ⟨x, hx⟩ : ∃ x, s0[k]? = some x := ⟨_, List.getElem?_eq_getElem hk⟩
      obtain ⟨v, hv⟩ : ∃ v, ws[k]? = some v := ⟨_, List.getElem?_eq_getElem (by omega)⟩
      obtain ⟨e, he, ⟨pe, qe, rfl, hpe, _⟩⟩ := hE.get hv
      have hn : (namesG g)[k]? = some e.name := by
        show (g.es.map (·.name))[k]? = _
        rw [List.getElem?_map, he]
        rfl
      have x18 := s18 x (List.mem_of_getElem? hx)
      rw [Int.zero_add]
      refine ⟨rfl, 1, rfl, (show 1 ≤ sizeLine by decide), fun t1 nt1 => ?_⟩
      have s1 := same_new (o := .tup [.int (-1)]) nt1
      have e1 : (upd G2 t1 (.tup [.int (-1)])) t1 = some (.tup [.int (-1)]) := upd_same
      have eD1 := s1 _ _ eD
      have sm1 := sm.trans s1
      have hacc1 := dsKeep s1 hacc
      generalize upd G2 t1 (.tup [.int (-1)]) = G3 at e1 eD1 sm1 hacc1 ⊢
      refine ⟨.ref z, rfl, .int ((k : Nat) : Int), rfl, z, _, ((k : Nat) : Int), .int ((x : Nat) : Int), rfl, rfl, tupS sm1 hz, atI_nat (by rw [List.getElem?_map, hx]; rfl), ?_⟩
      refine ⟨.ref pwd, rfl, pwd, _, 0, .ref q0, rfl, rfl, tupS sm1 hpw, atI_nat (j := 0) rfl, .int ((k : Nat) : Int), rfl, q0, ws, ((k : Nat) : Int), _, rfl, rfl, tupS sm1 hq0, atI_nat hv, pe, _, 0, .str e.name, rfl, rfl, tupS sm1 hpe, atI_nat (j := 0) rfl, .ref pwd, rfl, pwd, _, 1, .str g.asks, rfl, rfl, tupS sm1 hpw, atI_nat (j := 1) rfl, rfl, .inr ⟨_, rfl, _, _, rfl, rfl, ?_⟩⟩
      have en : ((x : Nat) : Int) - (if decide (V.str e.name = V.str g.asks) = true then 1 else 0) = (((if e.name = g.asks then x - 1 else x) : Nat) : Int) := by
        by_cases y : e.name = g.asks
        · rw [decide_eq_true (congrArg V.str y), if_pos rfl, if_pos y]
          omega
        · rw [decide_eq_false (fun z => y (V.str.inj z)), if_neg y]
          show _ - 0 = _
          omega
      dsimp only
      rw [en]
      generalize hX : (if e.name = g.asks then x - 1 else x) = X at en
      have hsz : (szOf g s0)[k]? = some X := by rw [szOf_at hn hx, hX]
      have X8 : X ≤ 8 := by
        rw [← hX]
        split <;> omega
      refine ⟨t1, _, _, rfl, rfl, .inl (.inl e1), (fun z => by cases z), by omega, by omega, by decide, fun r G4 s4 hr4 => ?_⟩
      rw [Int.toNat_natCast, rep_ints] at hr4
      have eD4 := s4 _ _ eD1
      have la : acc.length ≤ 4 := by
        have z := dsLen hacc1
        unfold begunS at z
        rw [List.length_map, List.length_map] at z
        have := List.length_take_le' (i := k) (l := szOf g s0)
        omega
      have tk : begunS ((szOf g s0).take (k + 1)) = begunS ((szOf g s0).take k) ++ [List.replicate X (-1)] := by
        unfold begunS
        rw [List.take_add_one, hsz, List.map_append]
        rfl
      refine ⟨acc, eD4, small' (by omega), putS (sm1.trans s4) nD, _, upd_same, ?_⟩
      rw [tk, List.map_append]
      refine dsApp (dIs_keep (fun _ _ h => tupT (ts_lst eD4) h) (dsKeep s4 hacc1)) (dIs_keep (ls := [List.replicate X (-1)]) (fun _ _ h => tupT (ts_lst eD4) h) (.cons (.tup hr4 (dp_ints _)) .nil))
    rintro G1 ⟨s1, acc, eD, hacc⟩
    rw [show (((s0.map fun n => V.int ((n : Nat) : Int)).length : Nat) : Int).toNat = (szOf g s0).length by rw [List.length_map]; omega, List.take_length] at hacc
    generalize hSZ : szOf g s0 = sz at hacc sum8 lsz q
    refine ⟨D, _, rfl, .inl ⟨.inl (.inl eD), fun bt nbt => ?_⟩⟩
    have s2 := same_new (o := .tup acc) nbt
    have dB : Dp K (upd G1 bt (.tup acc)) (.ref bt) (dS (begunS sz)) := .tup (.inl (.inl upd_same)) (dsKeep s2 hacc)
    have sH := s1.trans s2
    generalize upd G1 bt (.tup acc) = G2 at dB sH ⊢
    clear s2 nbt hacc eD acc s1 nD
    dsimp only [gName, List.set]
    refine asg_seq ⟨.ref bt, rfl, (show 1 ≤ sizeLine by decide), fun lo nlo => ?_⟩
    have s3 := same_new (o := .lst [.ref bt]) nlo
    have eL : (upd G2 lo (.lst [.ref bt])) lo = some (.lst [.ref bt]) := upd_same
    have nL : H lo = none := sH.free nlo
    have dB3 := dKeep s3 dB
    have sH3 := sH.trans s3
    generalize upd G2 lo (.lst [.ref bt]) = G3 at eL dB3 sH3 ⊢
    refine fun se o nse nd0 => ⟨.ref bt, rfl, bt, kS (begunS sz), rfl, nd0, ?_, fun o' nd1 => ?_⟩
    · refine ⟨?_, kS_deep _⟩
      rw [kS_data]
      exact dKeep (same_new nse) dB3
    rw [upd_upd] at nd1 ⊢
    have s4 := same_new (o := o') nse
    have nS : H se = none := sH3.free nse
    have eL4 := s4 _ _ eL
    have dB4 := dKeep s4 dB3
    have sH4 := sH3.trans s4
    generalize upd G3 se o' = G4 at nd1 eL4 dB4 sH4 ⊢
    clear s4 s3 nse nd0 nlo
    refine ⟨(show 0 ≤ sizeLine by decide), fun en nen => ⟨(show 4 ≤ sizeLine by decide), fun tp ntp => ?_⟩⟩
    have s5 := same_new (o := .lst []) nen
    have nE : H en = none := sH4.free nen
    have eE : (upd G4 en (.lst [])) en = some (.lst []) := upd_same
    generalize upd G4 en (.lst []) = G5 at s5 eE ntp ⊢
    have s6 := same_new (o := .tup [.ref lo, .ref se, .ref en, .int 0]) ntp
    have eT : (upd G5 tp (.tup [.ref lo, .ref se, .ref en, .int 0])) tp = some (.tup [.ref lo, .ref se, .ref en, .int 0]) := upd_same
    generalize upd G5 tp (.tup [.ref lo, .ref se, .ref en, .int 0]) = J0 at s6 eT ⊢
    have s56 := s5.trans s6
    have sJ0 := sH4.trans s56
    have lJ0 := s56 _ _ eL4
    have dJ0 := dKeep s56 dB4
    have nJ0 := nd1.same s56
    have eJ0 := s6 _ _ eE
    have neLE : lo ≠ en := ne_of_none eL4 nen
    clear s56 s6 s5 eE eL4 dB4 nd1 sH4 sH3 sH eL dB3 dB nen ntp
    refine ⟨tp, _, rfl, .inl (.inl eT), rfl, _, _, rfl, _, _, rfl, _, _, rfl, _, _, rfl, rfl, ?_⟩
    refine ⟨fun m σ J => ∃ (i : Nat) (y8 y9 : Option V) (ys es : List V) (L Es : List SS) (kvs : List (NestedKey × V)), m = 5764801 - i ∧ i ≤ L.length ∧ σ = [some (.ref pwd), some (.ref z), some (.int p), some (.int ((i : Nat) : Int)), some (.ref bt), some (.ref lo), some (.ref se), some (.ref en), y8, y9] ∧ Same H J ∧ J lo = some (.lst ys) ∧ DpAll K J ys (L.map dS) ∧ J en = some (.lst es) ∧ DpAll K J es (Es.map dS) ∧
        NdAt P w K J se kvs ∧ kvs.map (·.1) = L.map kS ∧ L.Nodup ∧ (∀ S ∈ L, Shp g p sz S) ∧ begunS sz ∈ L ∧ (∀ j S, j < i → L[j]? = some S → Done g p L S) ∧ (∀ S, S ∈ Es ↔ S ∈ L.take i ∧ Over g p S) ∧ Es.length ≤ i,
      ⟨_, 0, none, none, _, [], [begunS sz], [], _, rfl, Nat.zero_le _, rfl, sJ0, lJ0, .cons dJ0 .nil, eJ0, .nil, nJ0, rfl, (by simp), (fun S hS => by rw [List.mem_singleton.mp hS]; exact begun_shp), List.mem_singleton.mpr rfl, (fun j S h => absurd h (Nat.not_lt_zero j)), (fun S => ⟨(fun h => by cases h), (fun h => by rw [List.take_zero] at h; cases h.1)⟩), Nat.le_refl _⟩, ?_⟩
    clear lJ0 dJ0 nJ0 eJ0 sJ0 eT
    rintro m σ J ⟨i, y8, y9, ys, es, L, Es, kvs, rfl, hi, rfl, sJ, eLo, dLo, eEn, dEn, nd, keys, ndL, shp, beg, done, ends, lEs⟩
    have lys : ys.length = L.length := by rw [dsLen dLo, List.length_map]
    have big := few_states gw p6 sum8 (by omega) ndL shp
    refine ⟨.int ((i : Nat) : Int), rfl, .ref lo, rfl, lo, ys, rfl, .inl (.inl (.inl eLo)), ((i : Nat) : Int), ((ys.length : Nat) : Int), rfl, rfl, _, rfl, ?_⟩
    by_cases lt : i < L.length
    · rw [decide_eq_true (show ((i : Nat) : Int) < ((ys.length : Nat) : Int) by omega)]
      refine iteT ⟨fun σ' J' => ∃ m', m' < 5764801 - i ∧ ∃ (i : Nat) (y8 y9 : Option V) (ys es : List V) (L Es : List SS) (kvs : List (NestedKey × V)), m' = 5764801 - i ∧ i ≤ L.length ∧ σ' = [some (.ref pwd), some (.ref z), some (.int p), some (.int ((i : Nat) : Int)), some (.ref bt), some (.ref lo), some (.ref se), some (.ref en), y8, y9] ∧ Same H J' ∧ J' lo = some (.lst ys) ∧ DpAll K J' ys (L.map dS) ∧ J' en = some (.lst es) ∧ DpAll K J' es (Es.map dS) ∧
        NdAt P w K J' se kvs ∧ kvs.map (·.1) = L.map kS ∧ L.Nodup ∧ (∀ S ∈ L, Shp g p sz S) ∧ begunS sz ∈ L ∧ (∀ j S, j < i → L[j]? = some S → Done g p L S) ∧ (∀ S, S ∈ Es ↔ S ∈ L.take i ∧ Over g p S) ∧ Es.length ≤ i, fun σ' J' z => z, ?_⟩
      obtain ⟨S, hS⟩ : ∃ S, L[i]? = some S := ⟨_, List.getElem?_eq_getElem lt⟩
      have inS : S ∈ L := List.mem_of_getElem? hS
      obtain ⟨vi, hvi⟩ : ∃ vi, ys[i]? = some vi := ⟨_, List.getElem?_eq_getElem (by omega)⟩
      obtain ⟨d, hd, dvi⟩ := dsAt dLo i vi hvi
      obtain ⟨S', hS', rfl⟩ := map_get hd
      obtain rfl : S = S' := Option.some.inj (hS.symm.trans hS')
      have lS : S.length = g.es.length := by
        have := (shp S inS).l
        have z := congrArg List.length this
        rw [List.length_map] at z
        omega
      refine asg_seq ⟨.ref pwd, rfl, .int p, rfl, .ref lo, rfl, .int ((i : Nat) : Int), rfl, lo, ys, ((i : Nat) : Int), vi, rfl, rfl, .inl (.inl eLo), atI_nat hvi, .ref pwd, g, p, vi, S, rfl, pg.same sJ, gw, dvi, lS, (shp S inS).l8 sum8, fun q1 vs1 Ss G1 s1 n1 e1 d1 few1 aok => ?_⟩
      dsimp only [gName, List.set]
      have shpS := aok.shp gw (shp S inS)
      have sG := sJ.trans s1
      have eLo1 := s1 _ _ eLo
      have dLo1 := dsKeep s1 dLo
      have eEn1 := s1 _ _ eEn
      have dEn1 := dsKeep s1 dEn
      have nd1 := nd.same s1
      have dvi1 := dKeep s1 dvi
      have neQL : q1 ≠ lo := (ne_of_none eLo n1).symm
      have neQE : q1 ≠ en := (ne_of_none eEn n1).symm
      have neQS : q1 ≠ se := by
        obtain ⟨as, h, _⟩ := nd
        exact (ne_of_none h n1).symm
      clear s1 sJ eLo dLo eEn dEn nd dvi n1
      refine seq_mid (fun σ G => σ = [some (.ref pwd), some (.ref z), some (.int p), some (.int ((i : Nat) : Int)), some (.ref bt), some (.ref lo), some (.ref se), some (.ref en), some (.ref q1), y9] ∧ Same H G ∧ G q1 = some (.lst vs1) ∧ DpAll K G vs1 (Ss.map dS) ∧ G lo = some (.lst ys) ∧ DpAll K G ys (L.map dS) ∧
          (∃ (es : List V) (Es : List SS), G en = some (.lst es) ∧ DpAll K G es (Es.map dS) ∧ (∀ T, T ∈ Es ↔ T ∈ L.take (i + 1) ∧ Over g p T) ∧ Es.length ≤ i + 1) ∧ NdAt P w K G se kvs) ?_ ?_
      · rintro σ G ⟨rfl, sG, e1, d1, eLo, dLo, ⟨es, Es, eEn, dEn, ends, lEs⟩, nd⟩
        refine seq_mid (fun σ G => ∃ (y9 : Option V) (ys : List V) (L' : List SS) (kvs : List (NestedKey × V)), σ = [some (.ref pwd), some (.ref z), some (.int p), some (.int ((i : Nat) : Int)), some (.ref bt), some (.ref lo), some (.ref se), some (.ref en), some (.ref q1), y9] ∧ Same H G ∧ G lo = some (.lst ys) ∧ DpAll K G ys (L'.map dS) ∧ G en = some (.lst es) ∧ DpAll K G es (Es.map dS) ∧ NdAt P w K G se kvs ∧ kvs.map (·.1) = L'.map kS ∧ L'.Nodup ∧ (∀ S ∈ L', Shp g p sz S) ∧ (∃ M, L' = L ++ M) ∧ ∀ T ∈ Ss, T ∈ L') ?_ ?_
        · rintro σ G ⟨y9, ys, L', kvs, rfl, sG, eLo, dLo, eEn, dEn, nd, keys, ndL', shp', ⟨M, hM⟩, sub⟩
          have lL : L'.length = L.length + M.length := by rw [hM, List.length_append]
          have inL : ∀ T ∈ L, T ∈ L' := fun T hT => hM ▸ List.mem_append_left _ hT
          refine ⟨.int ((i : Nat) : Int), rfl, ((i : Nat) : Int), 1, rfl, rfl, 5764801 - (i + 1), by omega, i + 1, _, _, ys, es, L', Es, kvs, rfl, by omega, rfl, sG, eLo, dLo, eEn, dEn, nd, keys, ndL', shp', inL _ beg, fun j T hj hT => ?_, fun T => ?_, lEs⟩
          · by_cases e : j = i
            · subst e
              rw [hM, List.getElem?_append_left lt, hS] at hT
              obtain rfl := Option.some.inj hT
              intro s hs c t ht k l h1 h2 h3
              obtain ⟨late, pm, hin⟩ := aok.cmp s hs c t ht k l h1 h2 h3
              exact ⟨late, pm, sub _ hin⟩
            · rw [hM, List.getElem?_append_left (by omega)] at hT
              intro s hs c t ht k l h1 h2 h3
              obtain ⟨late, pm, hin⟩ := done j T (by omega) hT s hs c t ht k l h1 h2 h3
              exact ⟨late, pm, inL _ hin⟩
          · rw [ends T, hM, List.take_append_of_le_length (by omega)]
        · intro R k
          refine ⟨.ref q1, rfl, q1, rfl, ⟨_, .inl (.inl e1)⟩, ?_⟩
          refine for_it (walk_list (K := K) (a := q1) (xs := vs1)) (fun j σ G => ∃ (y9 : Option V) (ys : List V) (L' : List SS) (kvs : List (NestedKey × V)), σ = [some (.ref pwd), some (.ref z), some (.int p), some (.int ((i : Nat) : Int)), some (.ref bt), some (.ref lo), some (.ref se), some (.ref en), some (.ref q1), y9] ∧ Same H G ∧ G q1 = some (.lst vs1) ∧ DpAll K G vs1 (Ss.map dS) ∧ G lo = some (.lst ys) ∧ DpAll K G ys (L'.map dS) ∧ G en = some (.lst es) ∧ DpAll K G es (Es.map dS) ∧ NdAt P w K G se kvs ∧ kvs.map (·.1) = L'.map kS ∧ L'.Nodup ∧ (∀ S ∈ L', Shp g p sz S) ∧ (∃ M, L' = L ++ M) ∧ ∀ T ∈ Ss.take j, T ∈ L')
            ⟨y9, ys, L, kvs, rfl, sG, e1, d1, eLo, dLo, eEn, dEn, nd, keys, ndL, shp, ⟨[], (List.append_nil _).symm⟩, fun T hT => by rw [List.take_zero] at hT; cases hT⟩ (fun j σ G _ ⟨_, _, _, _, _, _, z, _⟩ => .inl (.inl z)) ?_ ?_
          · rintro j x σ G0 G hj ⟨y9, ys, L', kvs, rfl, sG, e1, d1, eLo, dLo, eEn, dEn, nd, keys, ndL', shp', ⟨M, hM⟩, sub⟩ ⟨rfl, hx⟩
            obtain ⟨d, hd, dx⟩ := dsAt d1 j x hx
            obtain ⟨T, hT, rfl⟩ := map_get hd
            obtain ⟨bx, xs, rfl, hbx, _, _⟩ := tupD (show Dp K G x (.tuple (T.map dI)) from dx)
            have key : NKeyAt K G bx (kS T) := ⟨by rw [kS_data]; exact dx, kS_deep T⟩
            have tk : ∀ U, U ∈ Ss.take (j + 1) → U ∈ Ss.take j ∨ U = T := fun U hU => by
              rw [List.take_add_one, hT] at hU
              rcases List.mem_append.mp hU with h | h
              · exact .inl h
              · exact .inr (List.mem_singleton.mp h)
            have lL' := few_states gw p6 sum8 (by omega) ndL' shp'
            have lkv : kvs.length = L'.length := by
              have := congrArg List.length keys
              rw [List.length_map, List.length_map] at this
              exact this
            have lys' : ys.length = L'.length := by rw [dsLen dLo, List.length_map]
            dsimp only [gName, List.set]
            refine ⟨.ref bx, rfl, .ref se, rfl, se, bx, kvs, kS T, rfl, rfl, nd, key, _, rfl, ?_⟩
            rw [val_in, keys]
            by_cases inn : T ∈ L'
            · rw [decide_eq_true (keys_in.mpr inn)]
              refine iteF ⟨_, ys, L', kvs, rfl, sG, e1, d1, eLo, dLo, eEn, dEn, nd, keys, ndL', shp', ⟨M, hM⟩, fun U hU => ?_⟩
              rcases tk U hU with h | rfl
              · exact sub U h
              · exact inn
            · rw [decide_eq_false (fun h => inn (keys_in.mp h))]
              refine iteT ?_
              have none1 : valV kvs (kS T) = none := by
                have z := val_in (kvs := kvs) (k := kS T)
                rw [keys, decide_eq_false (fun h => inn (keys_in.mp h))] at z
                cases y : valV kvs (kS T) with
                | none => rfl
                | some _ => rw [y] at z; cases z
              have shT := shpS T (List.mem_of_getElem? hT)
              refine asg_seq ⟨.ref se, rfl, .ref bx, rfl, se, bx, kvs, kS T, rfl, rfl, nd, key, Nat.lt_of_le_of_lt (show kvs.length ≤ 5764801 by omega) (by decide), fun ob nd' => ?_⟩
              rw [putK_new _ none1] at nd'
              obtain ⟨as, eSe, _⟩ := id nd
              have n1 : lo ≠ se := (ne_of eSe eLo (by intro z; cases z)).symm
              have n2 : en ≠ se := (ne_of eSe eEn (by intro z; cases z)).symm
              have n3 : q1 ≠ se := (ne_of eSe e1 (by intro z; cases z)).symm
              have kp : ∀ p xs, SqT K G p xs → SqT K (upd G se ob) p xs := fun p xs h => nd.sqT h
              have sG2 := putS (o := ob) sG nS
              have e12 : (upd G se ob) q1 = some (.lst vs1) := (upd_ne n3).trans e1
              have d12 := sts_keep kp d1
              have eLo2 : (upd G se ob) lo = some (.lst ys) := (upd_ne n1).trans eLo
              have dLo2 := sts_keep kp dLo
              have eEn2 : (upd G se ob) en = some (.lst es) := (upd_ne n2).trans eEn
              have dEn2 := sts_keep kp dEn
              have dx2 : Dp K (upd G se ob) (.ref bx) (dS T) := by rw [← kS_data]; exact (key.keep kp).1
              generalize upd G se ob = G2 at nd' sG2 e12 d12 eLo2 dLo2 eEn2 dEn2 dx2 ⊢
              clear kp n3 n1 n2 eSe nd dEn eEn dLo eLo d1 e1 sG key hbx dx
              refine ⟨.ref lo, rfl, .inl ⟨rfl, _, .inl (.inl eLo2)⟩, .ref bx, rfl, lo, ys, _, rfl, rfl, eLo2, Nat.lt_of_le_of_lt (show ys.length ≤ 5764801 by omega) (by decide), ?_⟩
              obtain ⟨as2, eSe2, _⟩ := id nd'
              have ndF : NdAt P w K (upd G2 lo (.lst (ys ++ [.ref bx]))) se (kvs ++ [(kS T, V.bl true)]) := NdAt.other (P := P) (w := w) (K := K) nd' eLo2 (by intro xs z; cases z) (by intro o xs z; cases z) (ne_of eSe2 eLo2 (by intro z; cases z))
              refine ⟨_, ys ++ [.ref bx], L' ++ [T], kvs ++ [(kS T, V.bl true)], rfl, putS sG2 nL, (upd_ne neQL).trans e12, sts_ts (ts_lst eLo2) d12, upd_same, ?_, (upd_ne neLE.symm).trans eEn2, sts_ts (ts_lst eLo2) dEn2, ndF, ?_, ?_, fun U hU => ?_, ⟨M ++ [T], by rw [hM, List.append_assoc]⟩, fun U hU => ?_⟩
              · rw [List.map_append]
                exact dsApp (sts_ts (ts_lst eLo2) dLo2) (sts_ts (Ss := [T]) (ts_lst eLo2) (.cons dx2 .nil))
              · rw [List.map_append, List.map_append, keys]
                rfl
              · exact List.nodup_append.mpr ⟨ndL', by simp, fun a ha b hb e => inn (by rw [List.mem_singleton.mp hb] at e; exact e ▸ ha)⟩
              · rcases List.mem_append.mp hU with h | h
                · exact shp' U h
                · rw [List.mem_singleton.mp h]
                  exact shT
              · rcases tk U hU with h | rfl
                · exact List.mem_append_left _ (sub U h)
                · exact List.mem_append_right _ (List.mem_singleton.mpr rfl)
          · rintro σ G ⟨y9, ys, L', kvs, rfl, sG, e1, d1, eLo, dLo, eEn, dEn, nd, keys, ndL', shp', hM, sub⟩
            rw [show vs1.length = Ss.length by rw [dsLen d1, List.length_map], List.take_length] at sub
            exact k _ _ ⟨_, ys, L', kvs, rfl, sG, eLo, dLo, eEn, dEn, nd, keys, ndL', shp', hM, sub⟩
      · intro R k
        refine ⟨.ref en, rfl, .inl ⟨rfl, _, .inl (.inl eEn1)⟩, .ref lo, rfl, .int ((i : Nat) : Int), rfl, lo, ys, ((i : Nat) : Int), vi, rfl, rfl, .inl (.inl eLo1), atI_nat hvi, (show 1 ≤ sizeLine by decide), fun t1 nt1 => ?_⟩
        have s2 := same_new (o := .lst [vi]) nt1
        have et1 : (upd G1 t1 (.lst [vi])) t1 = some (.lst [vi]) := upd_same
        refine ⟨.ref q1, rfl, (show 0 ≤ sizeLine by decide), fun l0 n0 => ?_⟩
        have s3 := same_new (o := .lst []) n0
        have s23 := s2.trans s3
        obtain ⟨gd, dp⟩ := good_dSs (Ss := Ss) fun T hT => (shpS T hT).dig gw p6 (by omega)
        refine ⟨.list (Ss.map dS), .list [], dp_lst (s23 _ _ e1) (dsKeep s23 d1), dp_lst upd_same .nil, good_shaped gd (by show PyData.depthAll (Ss.map dS) + 1 ≤ 64; omega), rfl, _, rfl, ?_⟩
        rw [eqv_nilS]
        have et2 := s3 _ _ et1
        have sG2 := sG.trans s23
        have e12 := s23 _ _ e1
        have d12 := dsKeep s23 d1
        have eLo2 := s23 _ _ eLo1
        have dLo2 := dsKeep s23 dLo1
        have eEn2 := s23 _ _ eEn1
        have dEn2 := dsKeep s23 dEn1
        have nd2 := nd1.same s23
        have dvi2 := dKeep s23 dvi1
        generalize upd (upd G1 t1 (.lst [vi])) l0 (.lst []) = G2 at et2 sG2 e12 d12 eLo2 dLo2 eEn2 dEn2 nd2 dvi2 ⊢
        clear s3 s2 s23 et1 nt1 n0 e1 d1 eLo1 dLo1 eEn1 dEn1 nd1 dvi1 sG
        have tkS : L.take (i + 1) = L.take i ++ [S] := by
          rw [List.take_add_one, hS]
          rfl
        have fin : ∀ (xs : List V) (Xs : List SS) (t2 : Addr), DpAll K G2 xs (Xs.map dS) → xs.length ≤ 1 → (∀ T, T ∈ Xs ↔ T = S ∧ Over g p T) → G2 t2 = none → ∃ l b xs' zs, V.ref en = .ref l ∧ [V.ref t2] = [.ref b] ∧ (upd G2 t2 (.lst xs)) l = some (.lst xs') ∧ (upd G2 t2 (.lst xs)) b = some (.lst zs) ∧ xs'.length + zs.length ≤ sizeLine ∧ R [some (.ref pwd), some (.ref z), some (.int p), some (.int ((i : Nat) : Int)), some (.ref bt), some (.ref lo), some (.ref se), some (.ref en), some (.ref q1), y9] (upd (upd G2 t2 (.lst xs)) l (.lst (xs' ++ zs))) := fun xs Xs t2 dx lx hx nt2 => by
          have s4 := same_new (o := .lst xs) nt2
          have eEn3 := s4 _ _ eEn2
          have neSE : se ≠ en := by
            obtain ⟨as, h, _⟩ := nd2
            exact ne_of h eEn2 (by intro z; cases z)
          have les : es.length ≤ 5764801 := by
            have a : es.length = Es.length := by rw [dsLen dEn2, List.length_map]
            omega
          refine ⟨en, t2, es, xs, rfl, rfl, eEn3, upd_same, Nat.le_trans (show es.length + xs.length ≤ 5764802 by omega) (by decide), k _ _ ⟨rfl, putS (sG2.trans s4) nE, ?_, ?_, ?_, ?_, ⟨es ++ xs, Es ++ Xs, upd_same, ?_, fun T => ?_, ?_⟩, ?_⟩⟩
          · rw [upd_ne neQE]
            exact s4 _ _ e12
          · exact sts_ts (ts_lst eEn3) (dsKeep s4 d12)
          · rw [upd_ne neLE]
            exact s4 _ _ eLo2
          · exact sts_ts (ts_lst eEn3) (dsKeep s4 dLo2)
          · rw [List.map_append]
            exact dsApp (sts_ts (ts_lst eEn3) (dsKeep s4 dEn2)) (sts_ts (ts_lst eEn3) (dsKeep s4 dx))
          · rw [List.mem_append, ends T, hx T, tkS, List.mem_append, List.mem_singleton]
            constructor
            · rintro (⟨a, b⟩ | ⟨a, b⟩)
              · exact ⟨.inl a, b⟩
              · exact ⟨.inr a, b⟩
            · rintro ⟨a | a, b⟩
              · exact .inl ⟨a, b⟩
              · exact .inr ⟨a, b⟩
          · rw [List.length_append]
            have : xs.length = Xs.length := by rw [dsLen dx, List.length_map]
            omega
          · exact (nd2.same s4).other eEn3 (by intro xs z; cases z) (by intro o xs z; cases z) neSE
        by_cases em : Ss = []
        · rw [decide_eq_true em]
          refine iteT ⟨1, rfl, t1, _, rfl, .inl (.inl et2), fun t2 nt2 => fin [vi] [S] t2 (.cons dvi2 .nil) (Nat.le_refl _) (fun T => ?_) nt2⟩
          rw [List.mem_singleton]
          exact ⟨fun e => ⟨e, by rw [e]; exact aok.over.mpr em⟩, fun h => h.1⟩
        · rw [decide_eq_false em]
          refine iteF ⟨0, rfl, t1, _, rfl, .inl (.inl et2), fun t2 nt2 => fin [] [] t2 .nil (Nat.zero_le _) (fun T => ⟨(fun h => by cases h), (fun h => absurd (aok.over.mp (h.1 ▸ h.2)) em)⟩) nt2⟩
    · rw [decide_eq_false (show ¬ ((i : Nat) : Int) < ((ys.length : Nat) : Int) by omega)]
      have ei : i = L.length := by omega
      subst ei
      rw [List.take_length] at ends
      refine iteF ⟨.ref lo, rfl, .ref en, rfl, (show 2 ≤ sizeLine by decide), fun t nt => ?_⟩
      have sT := same_new (o := .tup [.ref lo, .ref en]) nt
      refine q t lo en ys es L Es _ (sJ.trans sT) nL upd_same (sT _ _ eLo) (dsKeep sT dLo) (sT _ _ eEn) (dsKeep sT dEn) ⟨beg, shp, fun S hS => ?_⟩ big ends
      obtain ⟨j, hj⟩ := List.mem_iff_getElem?.mp hS
      exact done j S (List.getElem?_eq_some_iff.mp hj).1 hj
end
end Kn


namespace Kn
open PySem PySem.Spec PyProof.Rows L2
abbrev nTp : List Str := ["_law_net", "_law_sizes", "_law_power", "_law_names", "_law_title", "_law_tops_here", "_law_state", "_law_senders", "_law_k", "_law_pair", "_law_own", "_law_mark"]
theorem scTp : FnScope nTp ["_law_net", "_law_sizes", "_law_power"] (defScope (topS 36)) := ⟨rfl, rfl, rfl, by decide +kernel, rfl, by decide +kernel, by decide +kernel⟩
structure TopsOk (g : Pg) (p : Int) (s0 : List Nat) (T : List Int) : Prop where
  l : T.length = g.es.length
  upp : ∀ (k : Nat) (n : Str) (x : Int), (namesG g)[k]? = some n → T[k]? = some x → x = -1 ∨ Rch g p (n, x)
  low : ∃ L, Clo g p (szOf g s0) L ∧ ∀ S ∈ L, ∀ s ∈ sndr g p S, canB g s.1 s.2 = true → ∀ t ∈ lvOf g s, ∀ (k : Nat) (x : Int) (c : Nat), (namesG g)[k]? = some t.1 → T[k]? = some x → s0[k]? = some c → (t.1 ≠ s.1 ∨ 1 < c) → t.2 ≤ x
/-- while the states are walked -/
structure TopsP (g : Pg) (p : Int) (s0 : List Nat) (dn : SS → Str × Int → Str × Int → Prop) (T : List Int) : Prop where
  l : T.length = g.es.length
  upp : ∀ (k : Nat) (n : Str) (x : Int), (namesG g)[k]? = some n → T[k]? = some x → x = -1 ∨ Rch g p (n, x)
  low : ∀ S s t, dn S s t → ∀ (k : Nat) (x : Int) (c : Nat), (namesG g)[k]? = some t.1 → T[k]? = some x → s0[k]? = some c → (t.1 ≠ s.1 ∨ 1 < c) → t.2 ≤ x
theorem TopsP.skip {g : Pg} (G : GW g) {p : Int} {s0 : List Nat} {dn dn' : SS → Str × Int → Str × Int → Prop} {T : List Int} (h : TopsP g p s0 dn T) {s1 t1 : Str × Int} {k0 c0 : Nat} (hk : (namesG g)[k0]? = some t1.1) (hc : s0[k0]? = some c0) (no : ¬ (t1.1 ≠ s1.1 ∨ 1 < c0))
    (sub : ∀ S s t, dn' S s t → dn S s t ∨ (s = s1 ∧ t = t1)) : TopsP g p s0 dn' T := by
  refine ⟨h.l, h.upp, fun S s t d k x c h1 h2 h3 h4 => ?_⟩
  rcases sub S s t d with d | ⟨rfl, rfl⟩
  · exact h.low S s t d k x c h1 h2 h3 h4
  · obtain rfl : k = k0 := (List.getElem?_inj (List.getElem?_eq_some_iff.mp h1).1 G.nd).mp (h1.trans hk.symm)
    obtain rfl : c = c0 := Option.some.inj (h3.symm.trans hc)
    exact absurd h4 no
theorem TopsP.up {g : Pg} (G : GW g) {p : Int} {s0 : List Nat} {dn dn' : SS → Str × Int → Str × Int → Prop} {T : List Int} (h : TopsP g p s0 dn T) {s1 t1 : Str × Int} {k0 : Nat} {x0 : Int} (hk : (namesG g)[k0]? = some t1.1) (hx : T[k0]? = some x0) (rt : Rch g p t1)
    (sub : ∀ S s t, dn' S s t → dn S s t ∨ (s = s1 ∧ t = t1)) : TopsP g p s0 dn' (T.set k0 (if t1.2 > x0 then t1.2 else x0)) := by
  have kl := (List.getElem?_eq_some_iff.mp hx).1
  have le : x0 ≤ (if t1.2 > x0 then t1.2 else x0) ∧ t1.2 ≤ (if t1.2 > x0 then t1.2 else x0) := by
    by_cases z : t1.2 > x0
    · rw [if_pos z]; omega
    · rw [if_neg z]; omega
  refine ⟨by rw [List.length_set]; exact h.l, fun k n x h1 h2 => ?_, fun S s t d k x c h1 h2 h3 h4 => ?_⟩
  · rw [List.getElem?_set] at h2
    by_cases e : k0 = k
    · subst e
      rw [if_pos rfl, if_pos kl] at h2
      obtain rfl := Option.some.inj h2
      obtain rfl : t1.1 = n := Option.some.inj (hk.symm.trans h1)
      by_cases z : t1.2 > x0
      · rw [if_pos z]
        exact .inr rt
      · rw [if_neg z]
        exact h.upp k0 _ x0 hk hx
    · rw [if_neg e] at h2
      exact h.upp k n x h1 h2
  · rw [List.getElem?_set] at h2
    by_cases e : k0 = k
    · subst e
      rw [if_pos rfl, if_pos kl] at h2
      obtain rfl := Option.some.inj h2
      rcases sub S s t d with d | ⟨rfl, rfl⟩
      · have := h.low S s t d k0 x0 c h1 hx h3 h4
        omega
      · exact le.2
    · rw [if_neg e] at h2
      rcases sub S s t d with d | ⟨rfl, rfl⟩
      · exact h.low S s t d k x c h1 h2 h3 h4
      · exact absurd ((List.getElem?_inj (List.getElem?_eq_some_iff.mp hk).1 G.nd).mp (hk.trans h1.symm)) e
def spTp (K : PySem.W.Frag) : Sp := fun vs H Q _ => ∃ (w0 : V) (g : Pg) (p : Int) (z : Addr) (s0 : List Nat), vs = [w0, .ref z, .int p] ∧ PgAt K H w0 g ∧ GW g ∧ p ≤ 6 ∧ SqT K H z (s0.map fun n => V.int ((n : Nat) : Int)) ∧ s0.length = g.es.length ∧ (∀ n ∈ s0, 1 ≤ n ∧ n ≤ 8) ∧ (szOf g s0).sum ≤ 8 ∧
  ∀ (t : Addr) (T : List Int) (H' : Hp), Same H H' → H' t = some (.tup (T.map V.int)) → TopsOk g p s0 T → Q (.ref t) H'
section
variable {P : Program} {w : World} {K : PySem.W.Frag} {mg : Str → Option Value} {base : Heap}
theorem ok_tp {f fK fC fL fS : Addr} {fd fdK fdC fdL fdS : FuncData} (F : Fun K "_law_tops" "_law_tops" (topS 36) f fd) (Ki : Def K mg "_law_row" 24 ["_law_net", "_law_title"] fK fdK) (OK : FnOk P w K mg base CX0 1 fK fdK ["_law_net", "_law_title"] (spLk K))
    (Le : Def K mg "_law_left" 26 ["_law_net", "_law_pair"] fL fdL) (OL : FnOk P w K mg base CX0 2 fL fdL ["_law_net", "_law_pair"] (spLl K))
    (Cs : Def K mg "_law_sends" 25 ["_law_net", "_law_pair"] fC fdC) (OC : FnOk P w K mg base CX0 2 fC fdC ["_law_net", "_law_pair"] (spLc K))
    (Ss : Def K mg "_law_states" 34 ["_law_net", "_law_sizes", "_law_power"] fS fdS) (OS : FnOk P w K mg base CX0 4 fS fdS ["_law_net", "_law_sizes", "_law_power"] (spSs P w K)) (mt : mg "tuple" = none) (mr : mg "range" = none) (ml : mg "len" = none) (mma : mg "max" = none) :
    FnOk P w K mg base CX0 5 f fd ["_law_net", "_law_sizes", "_law_power"] (spTp K) := by
  refine F.ok scTp (fun vs H Q E h => ?_) (fun cdv A outer s H vs Q E hr h => ?_)
  · obtain ⟨w0, g, p, z, s0, rfl, _⟩ := h
    rfl
  · obtain ⟨w0, g, p, z, s0, rfl, pg, gw, p6, hz, ls0, s18, sum8, q⟩ := h
    have few := gw.few
    have nd : (namesG g).Nodup := gw.nd
    have lnm : (namesG g).length = g.es.length := List.length_map ..
    obtain ⟨pwd, q0, ws, rfl, hpw, hq0, hE⟩ := id pg
    have lws := hE.len
    refine ⟨_, (pss_cons (ps_set (i := 3) scTp.nd rfl (.inr rfl) (pe_lc (own := [("_law_own", 10)]) (g := gName 10) (by rfl) scTp.nd (pi_tup (pe_ix ix_tup (pv 0) pe_int (fun _ _ => rfl))) (blkOk_by (own := [("_law_own", 10)]) (N := nTp) (sc := defScope (topS 36)) (by decide +kernel)) (fun _ _ _ _ _ => (pg_name (i := 10) scTp.nd rfl (Or.inl rfl))) (fun _ _ _ _ _ => pts_nil) (fun _ _ _ _ _ => (pe_ix (r := rIxT K) ix_tup (pv 10) pe_int (fun _ _ => rfl)))))
      (pss_cons (ps_setLc (i := 5) (own := [("_law_title", 4)]) (g := gName 4) (by rfl) scTp.nd rfl rfl (sw_true rfl rfl rfl (by decide +kernel)) (pi_list (pv 3)) (blkOk_by (own := [("_law_title", 4)]) (N := nTp) (sc := defScope (topS 36)) (by decide +kernel)) (fun _ _ _ _ _ => (pg_name (i := 4) scTp.nd rfl (Or.inl rfl))) (fun _ _ _ _ _ => pts_nil) (fun _ _ _ _ _ => (pe_un un_neg pe_int)))
      (pss_cons (ps_for PassesOwn.never rfl (pi_list (pe_ix ix_tup (pe_call OS (hr.mono (by decide)) (by rfl) Ss.m Ss.F.kp Ss.b .nil pass0 (pa_cons (pv 0) (pa_cons (pv 1) (pa_cons (pv 2) pa_nil)))) pe_int (fun _ _ => rfl))) (pg_name (i := 6) scTp.nd rfl (.inl rfl)) (pss_cons (ps_set (i := 7) scTp.nd rfl (.inl rfl) (pe_lst (pa_cons (pe_tup (pa_cons (pe_ix ix_tup (pv 0) pe_int (fun _ _ => rfl)) (pa_cons (pv 2) pa_nil))) pa_nil)))
      (pss_cons (ps_for PassesOwn.never rfl (pi_range1 (by rfl) mr (pa_cons (pe_callB call_len_seq (by rfl) ml PySem.boot_len (pa_cons (pv 6) pa_nil)) pa_nil)) (pg_name (i := 8) scTp.nd rfl (.inr rfl)) (pss_one (ps_expr (pe_bm PySem.F.plainAttrs_list PySem.F.slot_list_extend PySem.F.type_list_extend mt_extend (pv 7) (pa_cons (pe_lc (own := [("_law_mark", 11)]) (g := gName 11) (by rfl) scTp.nd (pi_tup (pe_ix ix_tup (pv 6) (pv 8) (fun _ _ => rfl))) (blkOk_by (own := [("_law_mark", 11)]) (N := nTp) (sc := defScope (topS 36)) (by decide +kernel)) (fun _ _ _ _ _ => (pg_name (i := 11) scTp.nd rfl (Or.inl rfl))) (fun _ _ _ _ _ => pts_nil) (fun _ _ _ _ _ => (pe_tup (pa_cons (pe_ix (r := rIxL K) ix_list (pv 3) (pv 8) (fun _ _ => rfl)) (pa_cons (pv 11) pa_nil))))) pa_nil)))))
      (pss_one (ps_for PassesOwn.never rfl (pi_list (pe_lc (own := [("_law_own", 10)]) (g := gName 10) (by rfl) scTp.nd (pi_list (pv 7)) (blkOk_by (own := [("_law_own", 10)]) (N := nTp) (sc := defScope (topS 36)) (by decide +kernel)) (fun _ _ _ _ _ => (pg_name (i := 10) scTp.nd rfl (Or.inl rfl))) (fun _ _ _ _ _ => (pts_one (pt_val (pe_call OC (hr.mono (by decide)) (by rfl) Cs.m Cs.F.kp Cs.b .nil pass0 (pa_cons (pv 0) (pa_cons (pv 10) pa_nil)))))) (fun _ _ _ _ _ => (pv 10)))) (pg_name (i := 9) scTp.nd rfl (.inl rfl)) (pss_one (ps_for PassesOwn.never rfl (pi_tup (pe_ix ix_tup (pe_call OK (hr.mono (by decide)) (by rfl) Ki.m Ki.F.kp Ki.b .nil pass0 (pa_cons (pv 0) (pa_cons (pe_ix ix_tup (pv 9) pe_int (fun _ _ => rfl)) pa_nil))) pe_int (fun _ _ => rfl))) (pg_name (i := 4) scTp.nd rfl (.inl rfl)) (pss_cons (ps_set (i := 8) scTp.nd rfl (.inr rfl) (pe_bm PySem.F.plainAttrs_list PySem.F.slot_list_index PySem.F.type_list_index mt_index (pv 3) (pa_cons (pv 4) pa_nil)))
      (pss_one (ps_if (PW.pt (pw_or (pt_cmpR op_ne (pv 4) (pe_ix ix_tup (pv 9) pe_int (fun _ _ => rfl)) (nomark _)) (pw_or1 (pt_cmpR op_gt (pe_ix ix_tup (pv 1) (pv 8) (fun _ _ => rfl)) pe_int (nomark _))))) (pss_one (ps_asg (pe_callB (call_max2 rfl) (by rfl) mma (by decide +kernel) (pa_cons (pe_ix ix_list (pv 5) (pv 8) (fun _ _ => rfl)) (pa_cons (pe_call OL (hr.mono (by decide)) (by rfl) Le.m Le.F.kp Le.b .nil pass0 (pa_cons (pv 0) (pa_cons (pv 9) pa_nil))) pa_nil))) (pg_sub (pv 5) (pv 8) set_list))) pss_nil))))))))))
      (pss_one (ps_ret (pe_callTy call_tuple_of (by rfl) mt (by decide +kernel) (pa_cons (pv 5) pa_nil))))))), ?_⟩
    refine asg_seq ?_
    refine lc_mapT (a := q0) (xs := ws) ((g.es.map (·.name)).map V.str) (by simp; omega) (by omega) hq0 (fun R r => ⟨.ref pwd, rfl, pwd, _, 0, .ref q0, rfl, rfl, hpw, atI_nat (j := 0) rfl, r⟩) (fun v => rfl) ?_ ?_
    · intro k x y G2 R hx hy sm kk
      obtain ⟨e, he, ⟨pe, qe, rfl, he1, _⟩⟩ := hE.get hx
      obtain ⟨n, hn, rfl⟩ := map_get hy
      obtain ⟨e', he', rfl⟩ := map_get hn
      obtain rfl : e = e' := Option.some.inj (he.symm.trans he')
      exact ⟨.ref pe, rfl, pe, _, 0, .str e.name, rfl, rfl, tupS sm he1, atI_nat (j := 0) rfl, kk G2 (Same.refl G2)⟩
    intro nl H1 nnl s1 eN
    dsimp only [gName, List.set]
    refine asg_seq ⟨.ref nl, rfl, nl, rfl, ⟨_, .inl (.inl eN)⟩, fun D nD => ?_⟩
    refine lc_sel (walk_list (K := K) (a := nl) (xs := (g.es.map (·.name)).map V.str)) g.es (fun _ => some (.int (-1))) nD (by rw [List.length_map, List.length_map]) (by rw [List.length_map, List.length_map]; omega) (fun G s => .inl (.inl (s _ _ eN))) ?_ ?_
    · intro i x n G N Y hx hn sm no yes
      refine ⟨rfl, ?_⟩
      dsimp only [tYes]
      rw [if_pos rfl]
      exact ⟨1, rfl, yes _ G (Same.refl G) rfl⟩
    intro H2 s2 eD
    have el : (g.es.filterMap fun _ => some (V.int (-1))) = (List.replicate g.es.length (-1 : Int)).map V.int := by
      rw [List.filterMap_eq_map', List.map_replicate]
      generalize g.es = l
      induction l with
      | nil => rfl
      | cons a r ih => rw [List.map_cons, ih, List.length_cons, List.replicate_succ]
    rw [el] at eD
    have sH2 := s1.trans s2
    have eN2 := s2 _ _ eN
    have nDH : H D = none := s1.free nD
    have neND : nl ≠ D := ne_of_none eN nD
    clear el s2 eN s1 nnl nD
    dsimp only [gName, List.set]
    refine ⟨.ref pwd, rfl, .ref z, rfl, .int p, rfl, .ref pwd, g, p, z, s0, rfl, pg.same sH2, gw, p6, tupS sH2 hz, ls0, s18, sum8, fun tt lo en ys es L Es H3 s3 nLo et eLo dLo _ _ clo _ _ => ?_⟩
    have sH3 := sH2.trans s3
    have eN3 := s3 _ _ eN2
    have eD3 := s3 _ _ eD
    refine ⟨tt, _, 0, .ref lo, rfl, rfl, .inl (.inl et), atI_nat (j := 0) rfl, lo, rfl, ⟨_, .inl (.inl eLo)⟩, ?_⟩
    refine for_it (walk_list (K := K) (a := lo) (xs := ys)) (fun i σ G => ∃ (y4 y6 y7 y8 y9 y10 y11 : Option V) (T : List Int), σ = [some (.ref pwd), some (.ref z), some (.int p), some (.ref nl), y4, some (.ref D), y6, y7, y8, y9, y10, y11] ∧ Same H G ∧ G lo = some (.lst ys) ∧ DpAll K G ys (L.map dS) ∧ G nl = some (.lst ((g.es.map (·.name)).map V.str)) ∧ G D = some (.lst (T.map V.int)) ∧ TopsP g p s0 (fun S s t => S ∈ L.take i ∧ s ∈ sndr g p S ∧ canB g s.1 s.2 = true ∧ t ∈ lvOf g s) T)
      ⟨none, none, none, none, none, none, none, _, rfl, sH3, eLo, dLo, eN3, eD3, ⟨List.length_replicate, (fun k n x _ h => .inl (List.mem_replicate.mp (List.mem_of_getElem? h)).2), (fun S s t h => by rw [List.take_zero] at h; cases h.1)⟩⟩ (fun i σ G _ ⟨_, _, _, _, _, _, _, _, _, _, z, _⟩ => .inl (.inl z)) ?_ ?_
    · have neLD : lo ≠ D := (ne_of_none eD nLo).symm
      clear eD3 eN3 sH3 dLo eLo et s3 eD eN2 sH2
      rintro i x σ G0 Gs hi ⟨y4, y6, y7, y8, y9, y10, y11, T, rfl, sG, eLo, dLo, nG, eD, tp⟩ ⟨rfl, hx⟩
      obtain ⟨d, hd, dx⟩ := dsAt dLo i x hx
      obtain ⟨S, hS, rfl⟩ := map_get hd
      have inS : S ∈ L := List.mem_of_getElem? hS
      have shS := clo.all S inS
      have l8 := shS.l8 sum8
      have lS : S.length = g.es.length := by
        have z := congrArg List.length shS.l
        rw [List.length_map, szOf_len ls0] at z
        exact z
      obtain ⟨st, vs, rfl, hst, dvs, lvs⟩ := tupD (show Dp K Gs x (.tuple (S.map dI)) from dx)
      rw [List.length_map] at lvs
      dsimp only [gName, List.set]
      refine asg_seq ⟨.ref pwd, rfl, pwd, _, 1, .str g.asks, rfl, rfl, tupS sG hpw, atI_nat (j := 1) rfl, .int p, rfl, (show 2 ≤ sizeLine by decide), fun t0 nt0 => ⟨(show 1 ≤ sizeLine by decide), fun sl nsl => ?_⟩⟩
      have s1 := same_new (o := .tup [.str g.asks, .int p]) nt0
      have e1 : (upd Gs t0 (.tup [.str g.asks, .int p])) t0 = some (.tup [.str g.asks, .int p]) := upd_same
      generalize upd Gs t0 (.tup [.str g.asks, .int p]) = G3 at s1 e1 nsl ⊢
      have nSl : Gs sl = none := s1.free nsl
      have s2 := same_new (o := .lst [.ref t0]) nsl
      have lJ : (upd G3 sl (.lst [.ref t0])) sl = some (.lst [.ref t0]) := upd_same
      have sJ := s1.trans s2
      have pJ : PrsAt (upd G3 sl (.lst [.ref t0])) [.ref t0] (sndrN g p S 0) := by
        unfold sndrN
        rw [List.take_zero]
        exact .cons ⟨t0, rfl, s2 _ _ e1⟩ .nil
      generalize upd G3 sl (.lst [.ref t0]) = J0 at s2 lJ sJ pJ ⊢
      clear e1 s2 s1 nsl nt0
      dsimp only [gName, List.set]
      refine seq_mid (fun σ G => ∃ (y8 y11 : Option V) (ss : List V), σ = [some (.ref pwd), some (.ref z), some (.int p), some (.ref nl), y4, some (.ref D), some (.ref st), some (.ref sl), y8, y9, y10, y11] ∧ Same Gs G ∧ G sl = some (.lst ss) ∧ PrsAt G ss (sndr g p S)) ?_ ?_
      · rintro σ G0 ⟨y8, y11, ys', rfl, sGG, lG, pG⟩
        have ly := pG.len
        have lsn : (sndr g p S).length ≤ 33 := by
          have z := sndrN_len (g := g) (p := p) l8 S.length
          rw [sndrN_all (by omega)] at z
          omega
        have known : ∀ s ∈ sndr g p S, (rowOf g s.1).isSome = true := fun s hs => by
          rcases sndr_in hs with rfl | ⟨k, l, h1, _, _⟩
          · exact mem_rows.mp gw.asks
          · exact mem_rows.mp (List.mem_of_getElem? h1)
        refine ⟨.ref sl, rfl, sl, rfl, ⟨_, .inl (.inl lG)⟩, fun D0 nD => ?_⟩
        refine lc_sel (walk_list (K := K) (a := sl) (xs := ys')) (ys'.zip (sndr g p S)) (fun c => if canB g c.2.1 c.2.2 = true then some c.1 else none) nD (by rw [List.length_zip]; omega) (by omega) (fun G s => .inl (.inl (s _ _ lG))) ?_ ?_
        · intro j x c G N Y hx hc sm no yes
          have hz' := List.getElem?_zip_eq_some.mp hc
          obtain rfl : c.1 = x := Option.some.inj (hz'.1.symm.trans hx)
          obtain ⟨d, hd, dp⟩ := dsAt (prs_dps (K := K) pG) j c.1 hx
          obtain ⟨s', hs', rfl⟩ := map_get hd
          obtain rfl : s' = c.2 := Option.some.inj (hs'.symm.trans hz'.2)
          refine ⟨rfl, .ref pwd, rfl, c.1, rfl, .ref pwd, c.1, g, c.2, rfl, ((pg.same sG).same sGG).same sm, by omega, dKeep sm dp, known _ (List.mem_of_getElem? hz'.2), fun G' s' => ⟨_, rfl, ?_⟩⟩
          cases z : canB g c.2.1 c.2.2
          · rw [z] at no
            exact iteF (no G' s' rfl)
          · rw [z] at yes
            exact iteT ⟨c.1, rfl, yes c.1 G' s' rfl⟩
        intro G1 s1 eC
        rw [fm_if] at eC
        have hcs := dps_filt (k := fun s : Str × Int => canB g s.1 s.2) (prs_dps (K := K) (pG.ts (ts_same s1)))
        generalize ecs : ((ys'.zip (sndr g p S)).filter fun c => canB g c.2.1 c.2.2).map (·.1) = cs at eC hcs
        have sG1 := sG.trans (sGG.trans s1)
        have sA := sGG.trans s1
        have eLo1 := sA _ _ eLo
        have dLo1 := dsKeep sA dLo
        have nG1 := sA _ _ nG
        have eD1 := sA _ _ eD
        have nDd : D0 ≠ D := (ne_of_none (sGG _ _ eD) nD).symm
        have memC : ∀ s ∈ (sndr g p S).filter (fun s => canB g s.1 s.2), s ∈ sndr g p S ∧ canB g s.1 s.2 = true := fun s hs => List.mem_filter.mp hs
        have memD : ∀ s ∈ sndr g p S, canB g s.1 s.2 = true → s ∈ (sndr g p S).filter (fun s => canB g s.1 s.2) := fun s h1 h2 => List.mem_filter.mpr ⟨h1, h2⟩
        generalize (sndr g p S).filter (fun s => canB g s.1 s.2) = ss at hcs memC memD
        have lss : ss.length = cs.length := by rw [dsLen hcs, List.length_map]
        clear ecs sA s1 nG eD eLo dLo lG pG sGG sG ly sJ lJ pJ nSl hst dvs lvs dx nD
        refine ⟨D0, rfl, ⟨_, .inl (.inl eC)⟩, ?_⟩
        refine for_it (walk_list (K := K) (a := D0) (xs := cs)) (fun j σ G => ∃ (y4 y8 y9 : Option V) (T : List Int), σ = [some (.ref pwd), some (.ref z), some (.int p), some (.ref nl), y4, some (.ref D), some (.ref st), some (.ref sl), y8, y9, y10, y11] ∧ Same H G ∧ G D0 = some (.lst cs) ∧ DpAll K G cs (ss.map dPr) ∧ G lo = some (.lst ys) ∧ DpAll K G ys (L.map dS) ∧ G nl = some (.lst ((g.es.map (·.name)).map V.str)) ∧ G D = some (.lst (T.map V.int)) ∧
            TopsP g p s0 (fun S' s t => (S' ∈ L.take i ∧ s ∈ sndr g p S' ∧ canB g s.1 s.2 = true ∧ t ∈ lvOf g s) ∨ (S' = S ∧ s ∈ ss.take j ∧ t ∈ lvOf g s)) T)
          ⟨y4, y8, y9, T, rfl, sG1, eC, hcs, eLo1, dLo1, nG1, eD1, ⟨tp.l, tp.upp, fun S' s t h => tp.low S' s t (by rcases h with h | h; exact h; rw [List.take_zero] at h; cases h.2.1)⟩⟩ (fun j σ G _ ⟨_, _, _, _, _, _, z, _⟩ => .inl (.inl z)) ?_ ?_
        · rintro j x σ G0' G hj ⟨y4, y8, y9, T, rfl, sG, eC, hcs, eLo, dLo, nG, eD, tp⟩ ⟨rfl, hx⟩
          obtain ⟨d, hd, dpx⟩ := dsAt hcs j x hx
          obtain ⟨s, hs, rfl⟩ := map_get hd
          have hsm := memC s (List.mem_of_getElem? hs)
          obtain ⟨e, he, _, hf⟩ := can_is hsm.2
          have em := (row_is he).1
          have src := sndr_src gw shS hsm.1 hsm.2
          obtain ⟨px, xs, rfl, hpx, dxs, _⟩ := tupD (show Dp K G x (.tuple [.str s.1, .int s.2]) from dpx)
          obtain ⟨x1, xs1, rfl, z1, dxs⟩ : ∃ x1 xs1, xs = x1 :: xs1 ∧ x1 = .str s.1 ∧ DpAll K G xs1 [.int s.2] := by
            cases dxs with
            | cons a b => cases a; exact ⟨_, _, rfl, rfl, b⟩
          subst z1
          dsimp only [gName, List.set]
          refine ⟨.ref pwd, rfl, .ref px, rfl, px, _, 0, .str s.1, rfl, rfl, hpx, atI_nat (j := 0) rfl, .ref pwd, g, s.1, e, rfl, pg.same sG, by omega, he, fun r G1 s1 ent => ?_⟩
          obtain ⟨pe, qe, rfl, hpe, hqe⟩ := ent
          refine ⟨pe, _, 3, .ref qe, rfl, rfl, hpe, atI_nat (j := 3) rfl, qe, rfl, ⟨_, hqe⟩, ?_⟩
          have lve : lvOf g s = e.row.map fun k => (k, s.2 - e.fee) := by
            unfold lvOf
            rw [he]
          refine for_it (walk_tup (K := K) (a := qe) (xs := e.row.map V.str)) (fun m σ G => ∃ (y4 y8 : Option V) (T : List Int), σ = [some (.ref pwd), some (.ref z), some (.int p), some (.ref nl), y4, some (.ref D), some (.ref st), some (.ref sl), y8, some (.ref px), y10, y11] ∧ Same H G ∧ SqT K G qe (e.row.map V.str) ∧ Dp K G (.ref px) (dPr s) ∧ G D0 = some (.lst cs) ∧ DpAll K G cs (ss.map dPr) ∧ G lo = some (.lst ys) ∧ DpAll K G ys (L.map dS) ∧ G nl = some (.lst ((g.es.map (·.name)).map V.str)) ∧ G D = some (.lst (T.map V.int)) ∧
              TopsP g p s0 (fun S' s' t => ((S' ∈ L.take i ∧ s' ∈ sndr g p S' ∧ canB g s'.1 s'.2 = true ∧ t ∈ lvOf g s') ∨ (S' = S ∧ s' ∈ ss.take j ∧ t ∈ lvOf g s')) ∨ (s' = s ∧ t ∈ (lvOf g s).take m)) T)
            ⟨_, _, T, rfl, sG.trans s1, hqe, dKeep s1 dpx, s1 _ _ eC, dsKeep s1 hcs, s1 _ _ eLo, dsKeep s1 dLo, s1 _ _ nG, s1 _ _ eD, ⟨tp.l, tp.upp, fun S' s' t h => tp.low S' s' t (by rcases h with h | h; exact h; rw [List.take_zero] at h; cases h.2)⟩⟩ (fun m σ G _ ⟨_, _, _, _, _, z, _⟩ => z) ?_ ?_
          · rintro m x σ G0' G hm ⟨y4, y8, T, rfl, sG, hqe, dpx, eC, hcs, eLo, dLo, nG, eD, tp⟩ ⟨rfl, hx⟩
            obtain ⟨n, hn, rfl⟩ := map_get hx
            have inE := gw.tab e em n (List.mem_of_getElem? hn)
            obtain ⟨k, hk⟩ : ∃ k : Nat, (namesG g)[k]? = some n := List.mem_iff_getElem?.mp inE
            have klt := (List.getElem?_eq_some_iff.mp hk).1
            obtain ⟨c, hc⟩ : ∃ c, s0[k]? = some c := ⟨_, List.getElem?_eq_getElem (by omega)⟩
            have tj : (lvOf g s)[m]? = some (n, s.2 - e.fee) := by rw [lve, List.getElem?_map, hn]; rfl
            have inL : (n, s.2 - e.fee) ∈ lvOf g s := List.mem_of_getElem? tj
            have rt : Rch g p (n, s.2 - e.fee) := src.left hsm.2 inL
            have sub : ∀ S' s' t, (((S' ∈ L.take i ∧ s' ∈ sndr g p S' ∧ canB g s'.1 s'.2 = true ∧ t ∈ lvOf g s') ∨ (S' = S ∧ s' ∈ ss.take j ∧ t ∈ lvOf g s')) ∨ (s' = s ∧ t ∈ (lvOf g s).take (m + 1))) → (((S' ∈ L.take i ∧ s' ∈ sndr g p S' ∧ canB g s'.1 s'.2 = true ∧ t ∈ lvOf g s') ∨ (S' = S ∧ s' ∈ ss.take j ∧ t ∈ lvOf g s')) ∨ (s' = s ∧ t ∈ (lvOf g s).take m)) ∨ (s' = s ∧ t = (n, s.2 - e.fee)) := fun S' s' t h => by
              rcases h with h | ⟨h1, h2⟩
              · exact .inl (.inl h)
              · rw [List.take_add_one, tj] at h2
                rcases List.mem_append.mp h2 with h2 | h2
                · exact .inl (.inr ⟨h1, h2⟩)
                · exact .inr ⟨h1, List.mem_singleton.mp h2⟩
            have nDd0 : D0 ≠ D := nDd
            obtain ⟨pxs, hpx2⟩ : ∃ xs, SqT K G px (.str s.1 :: xs) := by
              obtain ⟨p2, xs2, e2, h2, d2, _⟩ := tupD (show Dp K G (.ref px) (.tuple [.str s.1, .int s.2]) from dpx)
              cases e2
              cases d2 with
              | cons a b => cases a; exact ⟨_, h2⟩
            dsimp only [gName, List.set]
            refine asg_seq ⟨.ref nl, rfl, .inl ⟨rfl, _, .inl (.inl nG)⟩, .str n, rfl, ?_⟩
            dsimp only [tNil]
            refine (show ∀ Q : VK, Q (.int ((k : Nat) : Int)) G → rIndex K (.ref nl) [.str n] G Q from fun Q h => ix_name (.inl (.inl nG)) nd hk h) _ ?_
            dsimp only [gName, List.set]
            refine ⟨.str n, rfl, .ref px, rfl, px, _, 0, .str s.1, rfl, rfl, hpx2, atI_nat (j := 0) rfl, rfl, _, rfl, ?_⟩
            by_cases c1 : n = s.1
            · rw [decide_eq_true (congrArg V.str c1)]
              refine iteF ⟨.ref z, rfl, .int ((k : Nat) : Int), rfl, z, _, ((k : Nat) : Int), .int ((c : Nat) : Int), rfl, rfl, tupS sG hz, atI_nat (by rw [List.getElem?_map, hc]; rfl), ((c : Nat) : Int), 1, rfl, rfl, _, rfl, ?_⟩
              by_cases c2 : 1 < c
              · rw [decide_eq_true (show ((c : Nat) : Int) > 1 by omega)]
                refine iteT ?_
                obtain ⟨x0, hx0⟩ : ∃ x0, T[k]? = some x0 := ⟨_, List.getElem?_eq_getElem (by have := tp.l; omega)⟩
                refine ⟨.ref D, rfl, .int ((k : Nat) : Int), rfl, D, _, ((k : Nat) : Int), .int x0, rfl, rfl, .inl (.inl eD), atI_nat (by rw [List.getElem?_map, hx0]; rfl), .ref pwd, rfl, .ref px, rfl, .ref pwd, .ref px, g, s, e, rfl, pg.same sG, by omega, dpx, he, fun G2 s2 => ⟨x0, s.2 - e.fee, rfl, .ref D, rfl, .int ((k : Nat) : Int), rfl, D, _, _, k, rfl, rfl, s2 _ _ eD, ixN_nat (by rw [List.length_map]; have := tp.l; omega), ?_⟩⟩
                have eD2 := s2 _ _ eD
                have kd : (T.map V.int).set k (V.int (if s.2 - e.fee > x0 then s.2 - e.fee else x0)) = (T.set k (if s.2 - e.fee > x0 then s.2 - e.fee else x0)).map V.int := by rw [List.map_set]
                rw [kd]
                exact ⟨_, _, T.set k (if s.2 - e.fee > x0 then s.2 - e.fee else x0), rfl, putS (sG.trans s2) nDH, tupT (ts_lst eD2) (tupS s2 hqe), pr_ts (ts_lst eD2) (dKeep s2 dpx), (upd_ne nDd0).trans (s2 _ _ eC), prsD_ts (ts_lst eD2) (dsKeep s2 hcs), (upd_ne neLD).trans (s2 _ _ eLo), sts_ts (ts_lst eD2) (dsKeep s2 dLo), (upd_ne neND).trans (s2 _ _ nG), upd_same, tp.up gw (s1 := s) (t1 := (n, s.2 - e.fee)) hk hx0 rt sub⟩
              · rw [decide_eq_false (show ¬ ((c : Nat) : Int) > 1 by omega)]
                exact iteF ⟨_, _, T, rfl, sG, hqe, dpx, eC, hcs, eLo, dLo, nG, eD, tp.skip gw (s1 := s) (t1 := (n, s.2 - e.fee)) hk hc (fun h => h.elim (fun h => h c1) c2) sub⟩
            · rw [decide_eq_false (fun h => c1 (V.str.inj h))]
              refine iteT ?_
              obtain ⟨x0, hx0⟩ : ∃ x0, T[k]? = some x0 := ⟨_, List.getElem?_eq_getElem (by have := tp.l; omega)⟩
              refine ⟨.ref D, rfl, .int ((k : Nat) : Int), rfl, D, _, ((k : Nat) : Int), .int x0, rfl, rfl, .inl (.inl eD), atI_nat (by rw [List.getElem?_map, hx0]; rfl), .ref pwd, rfl, .ref px, rfl, .ref pwd, .ref px, g, s, e, rfl, pg.same sG, by omega, dpx, he, fun G2 s2 => ⟨x0, s.2 - e.fee, rfl, .ref D, rfl, .int ((k : Nat) : Int), rfl, D, _, _, k, rfl, rfl, s2 _ _ eD, ixN_nat (by rw [List.length_map]; have := tp.l; omega), ?_⟩⟩
              have eD2 := s2 _ _ eD
              have kd : (T.map V.int).set k (V.int (if s.2 - e.fee > x0 then s.2 - e.fee else x0)) = (T.set k (if s.2 - e.fee > x0 then s.2 - e.fee else x0)).map V.int := by rw [List.map_set]
              rw [kd]
              exact ⟨_, _, T.set k (if s.2 - e.fee > x0 then s.2 - e.fee else x0), rfl, putS (sG.trans s2) nDH, tupT (ts_lst eD2) (tupS s2 hqe), pr_ts (ts_lst eD2) (dKeep s2 dpx), (upd_ne nDd0).trans (s2 _ _ eC), prsD_ts (ts_lst eD2) (dsKeep s2 hcs), (upd_ne neLD).trans (s2 _ _ eLo), sts_ts (ts_lst eD2) (dsKeep s2 dLo), (upd_ne neND).trans (s2 _ _ nG), upd_same, tp.up gw (s1 := s) (t1 := (n, s.2 - e.fee)) hk hx0 rt sub⟩
          · rintro σ G ⟨y4, y8, T, rfl, sG, hqe, dpx, eC, hcs, eLo, dLo, nG, eD, tp⟩
            refine ⟨_, _, _, T, rfl, sG, eC, hcs, eLo, dLo, nG, eD, ⟨tp.l, tp.upp, fun S' s' t h => tp.low S' s' t ?_⟩⟩
            rcases h with h | ⟨h1, h2, h3⟩
            · exact .inl (.inl h)
            · rw [List.take_add_one, hs] at h2
              rcases List.mem_append.mp h2 with h2 | h2
              · exact .inl (.inr ⟨h1, h2, h3⟩)
              · obtain rfl := List.mem_singleton.mp h2
                refine .inr ⟨rfl, ?_⟩
                rw [List.length_map, List.take_of_length_le (by rw [lve, List.length_map]; exact Nat.le_refl _)]
                exact h3
        · rintro σ G ⟨y4, y8, y9, T, rfl, sG, eC, hcs, eLo, dLo, nG, eD, tp⟩
          refine ⟨_, _, _, _, _, _, _, T, rfl, sG, eLo, dLo, nG, eD, ⟨tp.l, tp.upp, fun S' s' t h => tp.low S' s' t ?_⟩⟩
          obtain ⟨h1, h2, h3, h4⟩ := h
          rw [List.take_add_one, hS] at h1
          rcases List.mem_append.mp h1 with h1 | h1
          · exact .inl ⟨h1, h2, h3, h4⟩
          · obtain rfl := List.mem_singleton.mp h1
            refine .inr ⟨rfl, ?_, h4⟩
            rw [← lss, List.take_length]
            exact memD s' h2 h3
      · intro R k
        refine ⟨.ref st, rfl, st, vs, rfl, .inr (tupS sJ hst), _, rfl, by omega, by omega, ?_⟩
        refine for_range (lo := 0) (n := ((vs.length : Nat) : Int).toNat) (fun j σ G => ∃ (y8 y11 : Option V) (ss : List V), σ = [some (.ref pwd), some (.ref z), some (.int p), some (.ref nl), y4, some (.ref D), some (.ref st), some (.ref sl), y8, y9, y10, y11] ∧ Same Gs G ∧ G sl = some (.lst ss) ∧ PrsAt G ss (sndrN g p S j)) ⟨_, _, _, rfl, sJ, lJ, pJ⟩ ?_ ?_
        · rintro j σ G hj ⟨y8, y11, ss, rfl, sGG, lG, pG⟩
          have hj : j < vs.length := by omega
          obtain ⟨l, hl⟩ : ∃ l, S[j]? = some l := ⟨_, List.getElem?_eq_getElem (by omega)⟩
          obtain ⟨n, hn⟩ : ∃ n, (namesG g)[j]? = some n := ⟨_, List.getElem?_eq_getElem (by omega)⟩
          obtain ⟨vl, hvl⟩ : ∃ vl, vs[j]? = some vl := ⟨_, List.getElem?_eq_getElem hj⟩
          obtain ⟨d, hd, dvl⟩ := dsAt dvs j vl hvl
          obtain ⟨l', hl', rfl⟩ := map_get hd
          obtain rfl : l = l' := Option.some.inj (hl.symm.trans hl')
          obtain ⟨lt, xs, rfl, hlt, dxs, _⟩ := tupD dvl
          have exs := ints_of dxs
          subst exs
          have ll8 := l8 l (List.mem_of_getElem? hl)
          rw [Int.zero_add]
          dsimp only [gName, List.set]
          refine ⟨.ref sl, rfl, .inl ⟨rfl, _, .inl (.inl lG)⟩, .ref st, rfl, .int ((j : Nat) : Int), rfl, st, vs, ((j : Nat) : Int), _, rfl, rfl, tupS sGG hst, atI_nat hvl, lt, rfl, ⟨_, tupS sGG hlt⟩, fun D' nD' => ?_⟩
          refine lc_it (walk_tup (K := K) (a := lt) (xs := l.map V.int)) (fun i G2 => Same G G2 ∧ ∃ acc, G2 D' = some (.lst acc) ∧ PrsAt G2 acc ((l.take i).map fun m => (n, m))) ⟨same_new nD', [], upd_same, .nil⟩ (fun i G2 _ h => tupS (sGG.trans h.1) hlt) ?_ ?_
          · rintro i x G2 G2' hi ⟨sm, acc, eDD, hacc⟩ ⟨rfl, hx⟩
            obtain ⟨m, hm, rfl⟩ := map_get hx
            refine ⟨rfl, .ref nl, rfl, .int ((j : Nat) : Int), rfl, nl, _, ((j : Nat) : Int), .str n, rfl, rfl, .inl (.inl ((sGG.trans sm) _ _ nG)), atI_nat (j := j) (by rw [List.getElem?_map, show (g.es.map (·.name))[j]? = some n from hn]; rfl), .int m, rfl, (show 2 ≤ sizeLine by decide), fun t nt => ?_⟩
            have sT := same_new (o := .tup [V.str n, V.int m]) nt
            have eD2 := sT _ _ eDD
            have la : acc.length ≤ 8 := by
              rw [hacc.len, List.length_map]
              have := List.length_take_le' (i := i) (l := l)
              omega
            have eT : (upd G2' t (.tup [V.str n, V.int m])) t = some (.tup [V.str n, V.int m]) := upd_same
            refine ⟨acc, eD2, small' (by omega), putS (sm.trans sT) nD', _, upd_same, ?_⟩
            have tk : (l.take (i + 1)).map (fun m => (n, m)) = (l.take i).map (fun m => (n, m)) ++ [(n, m)] := by
              rw [List.take_add_one, hm, List.map_append]
              rfl
            rw [tk]
            exact ((hacc.ts (ts_same sT)).ts (ts_lst eD2)).app (.cons ⟨t, rfl, by rw [upd_ne (ne_of eT eD2 (by intro z; cases z))]; exact eT⟩ .nil)
          · rintro G2 ⟨sm, acc, eDD, hacc⟩
            rw [List.length_map, List.take_length] at hacc
            have ly := pG.len
            have l1 := sndrN_len (g := g) (p := p) l8 j
            have la := hacc.len
            rw [List.length_map] at la
            have lG2 := sm _ _ lG
            refine ⟨sl, D', ss, acc, rfl, rfl, lG2, eDD, Nat.le_trans (show ss.length + acc.length ≤ 1000 by omega) (by decide), ?_⟩
            refine ⟨_, _, ss ++ acc, rfl, putS (sGG.trans sm) nSl, upd_same, ?_⟩
            rw [sndrN_next hn hl]
            exact ((pG.ts (ts_same sm)).ts (ts_lst lG2)).app (hacc.ts (ts_lst lG2))
        · rintro σ G ⟨y8, y11, ss, rfl, sGG, lG, pG⟩
          rw [show ((vs.length : Nat) : Int).toNat = S.length by omega, sndrN_all (by omega)] at pG
          exact k _ _ ⟨_, _, _, rfl, sGG, lG, pG⟩
    · rintro σ G ⟨y4, y6, y7, y8, y9, y10, y11, T, rfl, sG, eLo, dLo, nG, eD, tp⟩
      rw [show ys.length = L.length by rw [dsLen dLo, List.length_map], List.take_length] at tp
      refine ⟨.ref D, rfl, D, _, rfl, .inl ⟨.inl (.inl eD), fun t nt => q t T _ (sG.trans (same_new nt)) upd_same ⟨tp.l, tp.upp, L, clo, fun S hS s hs c tt ht k x cc h1 h2 h3 h4 => tp.low S s tt ⟨hS, hs, c, ht⟩ k x cc h1 h2 h3 h4⟩⟩⟩
end
end Kn


/-! Kn: set of a tuple of texts. -/
namespace Kn
open PySem PySem.Spec PyProof.Rows L2
section
variable {P : Program} {w : World} {A : Around} {E : Value → Shared → Prop} {s : Shared}
/-- set(xs) of a tuple of texts -/
theorem txt_set_tup {l : Addr} {its : Array Value} (xs : List Str) {Q : Value → Shared → Prop} (hh : A.handled = none) (hl : s.heap.IsTuple l its) (vs : StrsAre its.toList xs) (room : xs.length + 1 < scanBound)
    (q : ∀ (h' : Heap) (tk : Nat), TxtSet w h' s.heap.objs.size (gathered xs) → (∀ b o, s.heap.get? b = some o → h'.get? b = some o) → Q (.ref s.heap.objs.size) { s with heap := h', toks := tk }) :
    wpAny (model P w) A (call (.type "set") [.ref l]) Q E s := by
  have sz : xs.length = its.size := by rw [← StrsAre.len_eq vs, Array.length_toList]
  obtain ⟨cl, tl, hmro⟩ := PySem.F.called_set.mro
  have k1 := PySem.F.called_set.made
  have k2 := PySem.F.called_set.sub
  have k3 := PySem.F.called_set.notType
  have k4 := PySem.F.called_set.canCreate
  have k5 := PySem.F.typeCall_set_1 (.ref l)
  refine wpAny_call (codeAny_of_tree ?_)
  show wpAny _ _ (callAny (.type "set") _) _ _ _
  refine wpAny_pure ⟨Code.quiet_builtin _ (by decide +kernel), codeAny_builtin PySem.F.entry_type_call ?_⟩
  rw [Around.under_plain (weight_type_call_type "set" [.ref l] []) rfl]
  repeat (any_goals (first | assumption | wp_step))
  refine codeAny_mono (code_set_led1 (.ref l) (E := E) (Q₁ := fun v s1 => v = .ref s.heap.objs.size ∧ s1 = { s with heap := s.heap.push (setObj0 w) }) ⟨rfl, rfl⟩) fun r s1 hr => ?_
  rcases r with e | fl
  · exact hr
  cases fl with
  | brk => exact hr.elim
  | cont => exact hr.elim
  | next => exact hr.elim
  | ret v =>
    obtain ⟨rfl, rfl⟩ := hr
    have at0 : (s.heap.push (setObj0 w)).get? s.heap.objs.size = some (setObj0 w) := Heap.get?_push_size _ rfl
    have ty0 : Shared.TypeIs { s with heap := s.heap.push (setObj0 w) } (.ref s.heap.objs.size) "set" := ⟨_, at0, rfl⟩
    have k6 := PySem.F.called_set.init.lookup
    have k7 := PySem.F.called_set.init.bind (.ref s.heap.objs.size)
    repeat (any_goals (first | assumption | wp_step))
    refine codeAny_mono (codeAny_call_builtin (R := wants (fun r s2 => r = .none ∧ ∃ h' tk, s2 = { s with heap := h', toks := tk } ∧ TxtSet w h' s.heap.objs.size (gathered xs) ∧ ∀ b o, s.heap.get? b = some o → h'.get? b = some o) E)
      PySem.F.called_set.init.plain PySem.F.entry_set_init (check_set_init_1 ty0 ?_)) fun r2 s2 hr2 => ?_
    · obtain ⟨⟨oc, od, oda, osl⟩, ho, hc, nl, hd⟩ := hl
      simp only at hc hd
      subst hc; subst hd
      have ho' : (s.heap.push (setObj0 w)).get? l = some { cls := .type "tuple", dict := od, data := .seq its nl, slots := osl } := Heap.get?_push_of_some _ ho
      have hl' : (s.heap.push (setObj0 w)).IsTuple l its := ⟨_, ho', rfl, nl, rfl⟩
      have j1 := PySem.F.sub_tuple_set
      have j2 := PySem.F.sub_tuple_frozenset
      have j3 : (Value.type "tuple" == Value.type "dict") = false := by decide
      unfold Builtin.«set.__init__» noKeywords Builtin.Frozenset.updateFrom
      generalize hPI : pyIter = PI
      wp_walk
      subst hPI
      have lS : l < s.heap.objs.size := Heap.lt_size ho
      have z1 : (s.heap.push (setObj0 w)).objs.size = s.heap.objs.size + 1 := Heap.size_push ..
      have nI : l ≠ (s.heap.push (setObj0 w)).objs.size := by rw [z1]; exact Nat.ne_of_lt (Nat.lt_succ_of_lt lS)
      have nS : s.heap.objs.size ∉ [(s.heap.push (setObj0 w)).objs.size, l] := by
        rw [z1]
        intro m
        simp only [List.mem_cons, List.not_mem_nil, or_false] at m
        rcases m with m | m
        · exact absurd m (Nat.ne_of_lt (Nat.lt_succ_self _))
        · exact absurd m.symm (Nat.ne_of_lt lS)
      have h3 : A.in1.in1.in1.handled = none := by simp [hh]
      refine wpAny_pyIter_tuple hl' (wpAny_bind (wpAny_runValue ?_))
      refine txt_loop ((Walks.tuple h3 _ l nI its).toS) s.heap.objs.size nS xs sz (by omega) (fun i v hv => ?_) (its.size - 0) 0 _ (by omega) (Nat.zero_le _) ⟨⟨_, Heap.get?_push_size _ rfl, rfl, rfl⟩, hl'.push _⟩ ?_ ?_
      · have lt : i < xs.length := by rw [sz]; exact (Array.getElem?_eq_some_iff.mp hv).1
        obtain ⟨u, e⟩ := SS.strs_at vs i v (by rw [Array.getElem?_toList]; exact hv)
        refine ⟨xs[i], u, List.getElem?_eq_getElem lt, ?_⟩
        rw [e, List.getD_eq_getElem?_getD, List.getElem?_eq_getElem lt]
        rfl
      · exact txt_fresh (Heap.get?_push_of_some _ at0)
      · intro s' mv T
        obtain ⟨h', g2, d', tk', os'⟩ := s'
        have e1 : g2 = s.gens := mv.gens
        have e2 : d' = s.drawn := mv.drawn
        have e3 : os' = s.os := mv.os
        subst e1; subst e2; subst e3
        show wpAny _ _ _ _ _ _
        refine wpAny_pure ?_
        show wpAny _ _ (ret Value.none) _ _ _
        refine wpAny_pure ⟨rfl, h', tk', rfl, T, fun b o e => ?_⟩
        have lb : b < s.heap.objs.size := Heap.lt_size e
        refine mv.heap b o (fun m => ?_) (Heap.get?_push_of_some _ (Heap.get?_push_of_some _ e))
        rcases List.mem_cons.mp m with m | m
        · exact absurd m (Nat.ne_of_lt lb)
        · rw [List.mem_singleton, z1] at m
          exact absurd m (Nat.ne_of_lt (Nat.lt_succ_of_lt lb))
    · rcases r2 with e | fl2
      · exact hr2
      cases fl2 with
      | brk => exact hr2.elim
      | cont => exact hr2.elim
      | next => exact hr2.elim
      | ret v =>
        obtain ⟨rfl, h', tk, rfl, T, keep⟩ := hr2
        repeat (any_goals (first | assumption | wp_step))
        exact q _ _ T keep
end
section
variable {X : Cx}
def rSetTxT (K : PySem.W.Frag) (w : World) : List V → Hp → VK → Prop := fun vs H Q => ∃ (l : Addr) (xs : List Str), vs = [.ref l] ∧ SqT K H l (xs.map V.str) ∧ xs.length < 1000 ∧ ∀ p, H p = none → Q (.ref p) (upd H p (SetTx w p (gathered xs)))
theorem cr_setTxT (hc : X.calm = true) : CallR X (.type "set") (rSetTxT X.K X.w) := by
  intro pins s σ H vs us Q I r h
  obtain ⟨l, xs, rfl, hl, few, q⟩ := h
  rw [Vals.ref1 r]
  obtain ⟨its, rv, pl, hz⟩ := I.tuple hl
  have room : xs.length + 1 < scanBound := Nat.lt_of_lt_of_le (Nat.succ_lt_succ few) (by decide)
  refine txt_set_tup xs (I.ok.hd hc) pl (by simpa using rv.strs) room fun h' tk T keep => ?_
  exact ⟨.ref _, upd H s.heap.objs.size (SetTx X.w s.heap.objs.size (gathered xs)), I.laid (t' := tk) keep (Nat.le_refl _) (setTx_new T), rfl, q _ (I.hok.fresh (Nat.le_refl _))⟩
end
end Kn


namespace Kn
open PySem PySem.Spec PyProof.Rows L2
abbrev nWi : List Str := ["_law_feed_here", "_law_net", "_law_k", "_law_j", "_law_own"]
theorem scWi : FnScope nWi ["_law_feed_here", "_law_net"] (defScope (topS 37)) := ⟨rfl, rfl, rfl, by decide +kernel, rfl, by decide +kernel, by decide +kernel⟩
abbrev nSm : List Str := ["_law_sizes", "_law_bound", "_law_own"]
theorem scSm : FnScope nSm ["_law_sizes"] (defScope (topS 35)) := ⟨rfl, rfl, rfl, by decide +kernel, rfl, by decide +kernel, by decide +kernel⟩
/-! ### a web with a name more in a table -/
structure Wid (g g' : Pg) : Prop where
  nm : namesG g' = namesG g
  ask : g'.asks = g.asks
  row : ∀ (n : Str) (e : Ent), rowOf g n = some e → ∃ e', rowOf g' n = some e' ∧ e'.fee = e.fee ∧ e'.has = e.has ∧ ∀ x ∈ e.row, x ∈ e'.row
theorem Wid.can {g g' : Pg} (h : Wid g g') {n : Str} {m : Int} (c : canB g n m = true) : canB g' n m = true := by
  obtain ⟨e, he, hh, hf⟩ := can_is c
  obtain ⟨e', he', e1, e2, _⟩ := h.row n e he
  unfold canB
  rw [he']
  show (!e'.has && decide (e'.fee ≤ m)) = true
  rw [e1, e2, hh, decide_eq_true hf]
  rfl
theorem Wid.left {g g' : Pg} (h : Wid g g') {s t : Str × Int} (ht : t ∈ lvOf g s) : t ∈ lvOf g' s := by
  obtain ⟨e, he, hk, h2⟩ := left_is ht
  obtain ⟨e', he', e1, _, e3⟩ := h.row _ e he
  have z := left_mk (s := s) he' (e3 _ hk)
  rw [e1, ← h2] at z
  exact z
theorem Wid.rch {g g' : Pg} (h : Wid g g') {p : Int} {t : Str × Int} (r : Rch g p t) : Rch g' p t := by
  induction r with
  | first c ht => exact .first (by rw [h.ask]; exact h.can c) (by rw [h.ask]; exact h.left ht)
  | step _ c ht ih => exact .step ih (h.can c) (h.left ht)
/-- with a mark more -/
theorem rch_up {g : Pg} {p : Int} {t : Str × Int} (r : Rch g p t) : Rch g (p + 1) (t.1, t.2 + 1) := by
  have can_up : ∀ {n : Str} {m : Int}, canB g n m = true → canB g n (m + 1) = true := fun {n m} c => by
    obtain ⟨e, he, hh, hf⟩ := can_is c
    unfold canB
    rw [he]
    show (!e.has && decide (e.fee ≤ m + 1)) = true
    rw [hh, decide_eq_true (show e.fee ≤ m + 1 by omega)]
    rfl
  have left_up : ∀ {s t : Str × Int}, t ∈ lvOf g s → (t.1, t.2 + 1) ∈ lvOf g (s.1, s.2 + 1) := fun {s t} ht => by
    obtain ⟨e, he, hk, h2⟩ := left_is ht
    have z := left_mk (s := (s.1, s.2 + 1)) he hk
    have e : s.2 + 1 - e.fee = t.2 + 1 := by omega
    dsimp only at z
    rw [e] at z
    exact z
  induction r with
  | first c ht => exact .first (can_up c) (left_up ht)
  | @step s t _ c ht ih => exact .step (s := (s.1, s.2 + 1)) ih (can_up c) (left_up ht)
theorem best_wid {g g' : Pg} (h : Wid g g') {p : Int} {b b' : Str → Int} (B : BestOf g p b) (B' : BestOf g' p b') : ∀ n ∈ namesG g, b n ≤ b' n := fun n hn => by
  rcases B.got n hn with e | r
  · have hn' : n ∈ namesG g' := h.nm ▸ hn
    rcases B'.got n hn' with e' | r'
    · omega
    · have := r'.pos
      dsimp only at this
      omega
  · exact B'.all _ (h.rch r)
theorem best_up {g : Pg} {p : Int} {b b' : Str → Int} (B : BestOf g p b) (B' : BestOf g (p + 1) b') : ∀ n ∈ namesG g, b n ≤ b' n := fun n hn => by
  rcases B.got n hn with e | r
  · rcases B'.got n hn with e' | r'
    · omega
    · have := r'.pos
      dsimp only at this
      omega
  · have := B'.all _ (rch_up r)
    dsimp only at this
    omega
theorem strs_of {K : PySem.W.Frag} {H : Hp} : ∀ {l : List Str} {xs : List V}, DpAll K H xs (l.map PyData.str) → xs = l.map V.str
  | [], _, .nil => rfl
  | m :: r, _, .cons a b => by
    cases a
    rw [strs_of b]
    rfl
theorem ent_of {K : PySem.W.Frag} {H : Hp} {v : V} {e : Ent} (h : Dp K H v (dEnt e)) : EntAt K H v e := by
  obtain ⟨p, xs, rfl, hp, hd, _⟩ := tupD (show Dp K H v (.tuple [.str e.name, .int e.fee, .bool e.has, .tuple (e.row.map PyData.str)]) from h)
  cases hd with
  | cons a1 r1 =>
    cases r1 with
    | cons a2 r2 =>
      cases r2 with
      | cons a3 r3 =>
        cases r3 with
        | cons a4 r4 =>
          cases r4
          cases a1
          cases a2
          cases a3
          obtain ⟨q, ys, rfl, hq, hy, _⟩ := tupD a4
          have := strs_of hy
          subst this
          exact ⟨p, q, rfl, hp, hq⟩
theorem entsD_of {K : PySem.W.Frag} {H : Hp} : ∀ {es : List Ent} {vs : List V}, DpAll K H vs (es.map dEnt) → EntsAt K H vs es
  | [], _, .nil => .nil
  | e :: r, _, .cons a b => .cons (ent_of a) (entsD_of b)
theorem widen {g : Pg} (G : GW g) {k : Nat} {e e' : Ent} (hk : g.es[k]? = some e) (e1 : e'.name = e.name) (e2 : e'.fee = e.fee) (e3 : e'.has = e.has) (e4 : ∀ x ∈ e.row, x ∈ e'.row) (e5 : ∀ x ∈ e'.row, x ∈ g.es.map (·.name)) (e6 : e'.row.Nodup) (ok : e'.ok) : GW ⟨g.es.set k e', g.asks⟩ ∧ Wid g ⟨g.es.set k e', g.asks⟩ := by
  have kl := (List.getElem?_eq_some_iff.mp hk).1
  have nm : (g.es.set k e').map (·.name) = g.es.map (·.name) := by
    refine List.ext_getElem? fun j => ?_
    rw [List.getElem?_map, List.getElem?_map, List.getElem?_set]
    by_cases z : k = j
    · subst z
      rw [if_pos rfl, if_pos kl, hk]
      exact congrArg some e1
    · rw [if_neg z]
  have em : e ∈ g.es := List.mem_of_getElem? hk
  have inn : ∀ x ∈ g.es.set k e', x = e' ∨ x ∈ g.es := fun x hx => by
    rcases List.mem_or_eq_of_mem_set hx with h | h
    · exact .inr h
    · exact .inl h
  have l5 : e'.row.length ≤ 5 := by
    have := nodup_sub e6 e5
    rw [List.length_map] at this
    have := G.few
    omega
  refine ⟨⟨⟨by show (g.es.set k e').length ≤ 12; rw [List.length_set]; exact G.ok.1, fun x hx => (inn x hx).elim (fun z => z ▸ ok) (G.ok.2.1 x), G.ok.2.2⟩, by rw [nm]; exact G.nd, fun x hx => (inn x hx).elim (fun z => by rw [z, e2]; exact G.fee e em) (G.fee x), fun x hx s hs => ?_, by show g.asks ∈ _; rw [nm]; exact G.asks, fun x hx => (inn x hx).elim (fun z => by rw [z, e1]; exact G.nm e em) (G.nm x), by show (g.es.set k e').length ≤ 4; rw [List.length_set]; exact G.few, fun x hx => (inn x hx).elim (fun z => z ▸ l5) (G.rows x)⟩, ⟨nm, rfl, fun n x hx => ?_⟩⟩
  · rw [nm]
    rcases inn x hx with z | z
    · exact e5 s (z ▸ hs)
    · exact G.tab x z s hs
  · have uniq : ∀ (es : List Ent), (es.map (·.name)).Nodup → ∀ y ∈ es, rowOf ⟨es, g.asks⟩ y.name = some y := fun es nd y hy => by
      unfold rowOf
      dsimp only
      induction es with
      | nil => cases hy
      | cons a r ih =>
        rw [List.find?_cons]
        rw [List.map_cons] at nd
        obtain ⟨n1, n2⟩ := List.nodup_cons.mp nd
        by_cases z : a.name = y.name
        · rw [decide_eq_true z]
          rcases List.mem_cons.mp hy with h | h
          · rw [h]
          · exact absurd (List.mem_map.mpr ⟨y, h, z.symm⟩) n1
        · rw [decide_eq_false z]
          rcases List.mem_cons.mp hy with h | h
          · exact absurd (by rw [h]) z
          · exact ih n2 h
    obtain ⟨xm, xn⟩ := row_is hx
    by_cases z : x = e
    · subst z
      refine ⟨e', ?_, e2, e3, e4⟩
      rw [← xn, ← e1]
      exact uniq _ (by rw [nm]; exact G.nd) e' (List.mem_or_eq_of_mem_set (l := g.es) (i := k) (a := e') (b := e') (List.mem_of_getElem? (i := k) (by rw [List.getElem?_set, if_pos rfl, if_pos kl])) |>.elim (fun _ => List.mem_of_getElem? (i := k) (by rw [List.getElem?_set, if_pos rfl, if_pos kl])) (fun _ => List.mem_of_getElem? (i := k) (by rw [List.getElem?_set, if_pos rfl, if_pos kl])))
    · refine ⟨x, ?_, rfl, rfl, fun _ h => h⟩
      rw [← xn]
      refine uniq _ (by rw [nm]; exact G.nd) x ?_
      obtain ⟨j, hj⟩ := List.mem_iff_getElem?.mp xm
      refine List.mem_of_getElem? (i := j) ?_
      rw [List.getElem?_set, if_neg (fun h => z (by subst h; exact Option.some.inj (hj.symm.trans hk)))]
      exact hj
end Kn


namespace Kn
open PySem PySem.Spec PyProof.Rows L2
def spSm (K : PySem.W.Frag) : Sp := fun vs H Q _ => ∃ (z : Addr) (ms : List Int), vs = [.ref z] ∧ SqT K H z (ms.map V.int) ∧ 1 ≤ ms.length ∧ ms.length ≤ 4 ∧ (∀ m ∈ ms, 1 ≤ m ∧ m ≤ 4) ∧
  ∀ (t : Addr) (s0 : List Nat) (H' : Hp), Same H H' → H' t = some (.tup (s0.map fun n => V.int ((n : Nat) : Int))) → s0.length = ms.length → (∀ n ∈ s0, 1 ≤ n ∧ n ≤ 8) → s0.sum ≤ 8 → Q (.ref t) H'
def spWi (K : PySem.W.Frag) : Sp := fun vs H Q _ => ∃ (f a : Addr) (ns : List Int) (c : Nat) (w0 : V) (g : Pg), vs = [.ref f, w0] ∧ Fd f a ns H c ∧ c + 2 < 100000 ∧ PgAt K H w0 g ∧ GW g ∧
  ∀ (v : V) (g' : Pg) (H' : Hp), Keep f H H' → Fd f a ns H' (c + 2) → PgAt K H' v g' → GW g' → Wid g g' → Q v H'
theorem nsum_le {b : Nat} : ∀ {l : List Nat}, (∀ n ∈ l, n ≤ b) → l.sum ≤ l.length * b
  | [], _ => Nat.zero_le _
  | x :: r, h => by
    have a := nsum_le (l := r) fun n hn => h n (List.mem_cons_of_mem _ hn)
    have c := h x (List.mem_cons_self ..)
    rw [List.sum_cons, List.length_cons, Nat.succ_mul]
    omega
section
variable {P : Program} {w : World} {K : PySem.W.Frag} {mg : Str → Option Value} {base : Heap}
theorem ok_sm {f : Addr} {fd : FuncData} (F : Fun K "_law_small" "_law_small" (topS 35) f fd) (mt : mg "tuple" = none) (ml : mg "len" = none) (mmi : mg "min" = none) : FnOk P w K mg base CX0 1 f fd ["_law_sizes"] (spSm K) := by
  refine F.ok scSm (fun vs H Q E h => ?_) (fun cdv A outer s H vs Q E hr h => ?_)
  · obtain ⟨z, ms, rfl, _⟩ := h
    rfl
  · obtain ⟨z, ms, rfl, hz, l1, l4, m14, q⟩ := h
    obtain ⟨b, hb, b2, b5, b8⟩ : ∃ b : Int, atI [V.int 5, .int 3, .int 2, .int 2] (((ms.length : Nat) : Int) - 1) = some (.int b) ∧ 2 ≤ b ∧ b ≤ 5 ∧ ms.length * b.toNat ≤ 8 + (if ms.length = 3 then 0 else if ms.length = 2 then 0 else 0) := by
      rcases (show ms.length = 1 ∨ ms.length = 2 ∨ ms.length = 3 ∨ ms.length = 4 by omega) with h | h | h | h <;> rw [h]
      · exact ⟨5, rfl, by decide, by decide, by decide⟩
      · exact ⟨3, rfl, by decide, by decide, by decide⟩
      · exact ⟨2, rfl, by decide, by decide, by decide⟩
      · exact ⟨2, rfl, by decide, by decide, by decide⟩
    have b8 : ms.length * b.toNat ≤ 8 := by
      have : (if ms.length = 3 then 0 else if ms.length = 2 then 0 else 0) = 0 := by split <;> (try split) <;> rfl
      omega
    refine ⟨_, (pss_cons (ps_set (i := 1) scSm.nd rfl (.inr rfl) (pe_ix ix_list (pe_lst (pa_cons pe_int (pa_cons pe_int (pa_cons pe_int (pa_cons pe_int pa_nil))))) (pe_op op_sub (pe_callB call_len_seq (by rfl) ml PySem.boot_len (pa_cons (pv 0) pa_nil)) pe_int) (fun _ _ => rfl)))
      (pss_one (ps_ret (pe_callTy call_tuple_of (by rfl) mt (by decide +kernel) (pa_cons (pe_lc (own := [("_law_own", 2)]) (g := gName 2) (by rfl) scSm.nd (pi_tup (pv 0)) (blkOk_by (own := [("_law_own", 2)]) (N := nSm) (sc := defScope (topS 35)) (by decide +kernel)) (fun _ _ _ _ _ => (pg_name (i := 2) scSm.nd rfl (Or.inl rfl))) (fun _ _ _ _ _ => pts_nil) (fun _ _ _ _ _ => (pe_callB (call_min2 rfl) (by rfl) mmi (by decide +kernel) (pa_cons (pv 2) (pa_cons (pv 1) pa_nil))))) pa_nil))))), ?_⟩
    refine asg_seq ⟨(show 4 ≤ sizeLine by decide), fun l nl => ⟨.ref z, rfl, z, _, rfl, .inr (tupS (same_new nl) hz), _, _, rfl, rfl, l, _, _, .int b, rfl, rfl, .inl (.inl upd_same), by rw [List.length_map]; exact hb, ?_⟩⟩
    have s1 := same_new (o := .lst [V.int 5, .int 3, .int 2, .int 2]) nl
    generalize upd H l (.lst [V.int 5, .int 3, .int 2, .int 2]) = H1 at s1 ⊢
    dsimp only [gName, List.set]
    refine ⟨.ref z, rfl, z, rfl, ⟨_, tupS s1 hz⟩, fun D nD => ?_⟩
    refine lc_sel (walk_tup (K := K) (a := z) (xs := ms.map V.int)) ms (fun m => some (.int (if b < m then b else m))) nD (List.length_map ..).symm (by rw [List.length_map]; omega) (fun G s => tupS (s1.trans s) hz) ?_ ?_
    · intro i x m G N Y hx hm sm no yes
      obtain ⟨m', hm', rfl⟩ := map_get hx
      obtain rfl : m = m' := Option.some.inj (hm.symm.trans hm')
      refine ⟨rfl, ?_⟩
      dsimp only [tYes]
      rw [if_pos rfl]
      exact ⟨.int m, rfl, .int b, rfl, m, b, rfl, yes _ G (Same.refl G) rfl⟩
    intro H2 s2 eD
    have el : (ms.filterMap fun m => some (V.int (if b < m then b else m))) = (ms.map fun m => (if b < m then b else m).toNat).map fun n => V.int ((n : Nat) : Int) := by
      rw [List.filterMap_eq_map', List.map_map]
      refine List.map_congr_left fun m hm => ?_
      have := m14 m hm
      show V.int (if b < m then b else m) = V.int (((if b < m then b else m).toNat : Nat) : Int)
      by_cases z : b < m
      · rw [if_pos z]
        congr 1
        omega
      · rw [if_neg z]
        congr 1
        omega
    rw [el] at eD
    refine ⟨D, _, rfl, .inl ⟨.inl (.inl eD), fun t nt => q t _ _ ((s1.trans s2).trans (same_new nt)) upd_same (List.length_map ..) (fun n hn => ?_) ?_⟩⟩
    · obtain ⟨m, hm, rfl⟩ := List.mem_map.mp hn
      have := m14 m hm
      split <;> omega
    · refine Nat.le_trans (nsum_le (b := b.toNat) fun n hn => ?_) (by rw [List.length_map]; exact b8)
      obtain ⟨m, hm, rfl⟩ := List.mem_map.mp hn
      split <;> omega
theorem ok_wi {f0 gD : Addr} {fd fdD : FuncData} (F : Fun K "_law_wider" "_law_wider" (topS 37) f0 fd) (D : Def K mg "_law_draw" 23 ["_law_feed_here", "_law_many"] gD fdD) (GD : FnOk P w K mg base CX0 1 gD fdD ["_law_feed_here", "_law_many"] spDraw)
    (mt : mg "tuple" = none) (ml : mg "len" = none) (mo : mg "sorted" = none) (mse : mg "set" = none) : FnOk P w K mg base CX0 2 f0 fd ["_law_feed_here", "_law_net"] (spWi K) := by
  refine F.ok scWi (fun vs H Q E h => ?_) (fun cdv A outer s H vs Q E hr h => ?_)
  · obtain ⟨f, a, ns, c, w0, g, rfl, _⟩ := h
    rfl
  · obtain ⟨f, a, ns, c, w0, g, rfl, fd0, hc, pg, gw, q⟩ := h
    have few := gw.few
    have pos : 0 < g.es.length := by
      have := List.length_pos_of_mem gw.asks
      rw [List.length_map] at this
      exact this
    refine ⟨_, (pss_cons (ps_par (i := 2) (j := 3) (by rfl) scWi.nd rfl rfl (by decide) rfl rfl (pa_cons (pe_call GD (hr.mono (by decide)) (by rfl) D.m D.F.kp D.b .nil pass0 (pa_cons (pv 0) (pa_cons (pe_callB call_len_seq (by rfl) ml PySem.boot_len (pa_cons (pe_ix ix_tup (pv 1) pe_int (fun _ _ => rfl)) pa_nil)) pa_nil))) (pa_cons (pe_call GD (hr.mono (by decide)) (by rfl) D.m D.F.kp D.b .nil pass0 (pa_cons (pv 0) (pa_cons (pe_callB call_len_seq (by rfl) ml PySem.boot_len (pa_cons (pe_ix ix_tup (pv 1) pe_int (fun _ _ => rfl)) pa_nil)) pa_nil))) pa_nil)) (by rfl))
      (pss_cons (ps_set (i := 4) scWi.nd rfl (.inl rfl) (pe_ix ix_tup (pe_ix ix_tup (pv 1) pe_int (fun _ _ => rfl)) (pv 2) (fun _ _ => rfl)))
      (pss_cons (ps_set (i := 4) scWi.nd rfl (.inl rfl) (pe_tup (pa_cons (pe_ix ix_tup (pv 4) pe_int (fun _ _ => rfl)) (pa_cons (pe_ix ix_tup (pv 4) pe_int (fun _ _ => rfl)) (pa_cons (pe_ix ix_tup (pv 4) pe_int (fun _ _ => rfl)) (pa_cons (pe_callTy call_tuple_of (by rfl) mt (by decide +kernel) (pa_cons (pe_callB (cr_sortedTx rfl) (by rfl) mo (by decide +kernel) (pa_cons (pe_callTy (cr_setTxT rfl) (by rfl) mse (by decide +kernel) (pa_cons (pe_op op_catA (pe_ix ix_tup (pv 4) pe_int (fun _ _ => rfl)) (pe_tup (pa_cons (pe_ix ix_tup (pe_ix ix_tup (pe_ix ix_tup (pv 1) pe_int (fun _ _ => rfl)) (pv 3) (fun _ _ => rfl)) pe_int (fun _ _ => rfl)) pa_nil))) pa_nil)) pa_nil)) pa_nil)) pa_nil))))))
      (pss_one (ps_ret (pe_tup (pa_cons (pe_op op_catA (pe_op op_catA (pe_slice sl_tupA (pe_ix ix_tup (pv 1) pe_int (fun _ _ => rfl)) po_none (po_some (pv 2))) (pe_tup (pa_cons (pv 4) pa_nil))) (pe_slice sl_tupA (pe_ix ix_tup (pv 1) pe_int (fun _ _ => rfl)) (po_some (pe_op op_add (pv 2) pe_int)) po_none)) (pa_cons (pe_ix ix_tup (pv 1) pe_int (fun _ _ => rfl)) pa_nil)))))))), ?_⟩
    obtain ⟨pwd, q0, ws, rfl, hpw, hq0, hE⟩ := id pg
    have lws := hE.len
    refine ⟨.ref f, rfl, .ref pwd, rfl, pwd, _, 0, .ref q0, rfl, rfl, hpw, atI_nat (j := 0) rfl, q0, ws, rfl, .inr hq0, f, a, ns, c, ((ws.length : Nat) : Int), rfl, by omega, by omega, fd0, by omega, fun ki H1 k0 k1 kp1 fd1 => ?_⟩
    have t1 := ts_fd fd0 kp1
    refine ⟨.ref f, rfl, .ref pwd, rfl, pwd, _, 0, .ref q0, rfl, rfl, tupT t1 hpw, atI_nat (j := 0) rfl, q0, ws, rfl, .inr (tupT t1 hq0), f, a, ns, c + 1, ((ws.length : Nat) : Int), rfl, by omega, by omega, fd1, by omega, fun ji H2 j0 j1 kp2 fd2 => ⟨_, _, rfl, ?_⟩⟩
    have t2 := t1.trans (ts_fd fd1 kp2)
    have kp := kp1.trans kp2
    obtain ⟨k, rfl⟩ : ∃ k : Nat, ki = (k : Int) := ⟨ki.toNat, by omega⟩
    obtain ⟨j, rfl⟩ : ∃ j : Nat, ji = (j : Int) := ⟨ji.toNat, by omega⟩
    have hpw2 := tupT t2 hpw
    have hq2 := tupT t2 hq0
    have pg2 := pg.ts t2
    have hE2 := hE.ts t2
    clear fd1 kp1 kp2 t1 hpw hq0 fd0
    obtain ⟨v, hv⟩ : ∃ v, ws[k]? = some v := ⟨_, List.getElem?_eq_getElem (by omega)⟩
    obtain ⟨u, hu⟩ : ∃ u, ws[j]? = some u := ⟨_, List.getElem?_eq_getElem (by omega)⟩
    obtain ⟨e, he, hve⟩ := hE.get hv
    obtain ⟨e2, he2, hue⟩ := hE.get hu
    obtain ⟨pe, qe, rfl, hpe, hqe⟩ := hve.ts t2
    obtain ⟨pu, qu, rfl, hpu, _⟩ := hue.ts t2
    have em : e ∈ g.es := List.mem_of_getElem? he
    have em2 : e2 ∈ g.es := List.mem_of_getElem? he2
    have rl := gw.rows e em
    dsimp only [gName, List.set]
    refine asg_seq ⟨.ref pwd, rfl, pwd, _, 0, .ref q0, rfl, rfl, hpw2, atI_nat (j := 0) rfl, .int ((k : Nat) : Int), rfl, q0, ws, ((k : Nat) : Int), _, rfl, rfl, hq2, atI_nat hv, ?_⟩
    dsimp only [gName, List.set]
    refine asg_seq ⟨.ref pe, rfl, pe, _, 0, .str e.name, rfl, rfl, hpe, atI_nat (j := 0) rfl, .ref pe, rfl, pe, _, 1, .int e.fee, rfl, rfl, hpe, atI_nat (j := 1) rfl, .ref pe, rfl, pe, _, 2, .bl e.has, rfl, rfl, hpe, atI_nat (j := 2) rfl, .ref pe, rfl, pe, _, 3, .ref qe, rfl, rfl, hpe, atI_nat (j := 3) rfl, ?_⟩
    refine ⟨.ref pwd, rfl, pwd, _, 0, .ref q0, rfl, rfl, hpw2, atI_nat (j := 0) rfl, .int ((j : Nat) : Int), rfl, q0, ws, ((j : Nat) : Int), _, rfl, rfl, hq2, atI_nat hu, pu, _, 0, .str e2.name, rfl, rfl, hpu, atI_nat (j := 0) rfl, (show 1 ≤ sizeLine by decide), fun tn ntn => ?_⟩
    have s1 := same_new (o := .tup [V.str e2.name]) ntn
    refine catA (ds := e.row.map PyData.str) (es := [PyData.str e2.name]) (dKeep s1 (.tup hqe (strs_dp e.row))) (.tup (.inl (.inl upd_same)) (.cons (.str _) .nil)) (by rw [List.length_map]; show _ + 1 ≤ 1000; omega) fun r1 H3 s2 d3 => ?_
    have e3 : e.row.map PyData.str ++ [PyData.str e2.name] = (e.row ++ [e2.name]).map PyData.str := by rw [List.map_append]; rfl
    rw [e3] at d3
    obtain ⟨a3, xs3, rfl, h3, dx3, _⟩ := tupD d3
    obtain rfl := strs_of dx3
    have memR : ∀ x ∈ e.row ++ [e2.name], x ∈ g.es.map (·.name) := fun x hx => by
      rcases List.mem_append.mp hx with h | h
      · exact gw.tab e em x h
      · rw [List.mem_singleton.mp h]
        exact List.mem_map.mpr ⟨e2, em2, rfl⟩
    have lg : (gathered (e.row ++ [e2.name])).length ≤ 4 := by
      have z := nodup_sub (nodup_gathered (e.row ++ [e2.name])) (fun x hx => memR x (mem_gathered.mp hx))
      rw [List.length_map] at z
      omega
    refine ⟨a3, e.row ++ [e2.name], rfl, h3, by rw [List.length_append]; show _ + 1 < 1000; omega, fun sp nsp => ⟨sp, _, rfl, upd_same, by omega, fun zs l2 pm so nl2 => ⟨l2, _, rfl, .inl ⟨.inl (.inl upd_same), fun t2 nt2 => ?_⟩⟩⟩⟩
    have s3 := same_new (o := SetTx w sp (gathered (e.row ++ [e2.name]))) nsp
    have s4 := same_new (o := .lst (zs.map V.str)) nl2
    have s5 := same_new (o := .tup (zs.map V.str)) nt2
    have s15 := s1.trans (s2.trans (s3.trans (s4.trans s5)))
    refine ⟨(show 4 ≤ sizeLine by decide), fun te nte => ?_⟩
    have s6 := same_new (o := .tup [.str e.name, .int e.fee, .bl e.has, .ref t2]) nte
    have eT2 := s6 _ _ (upd_same (H := upd (upd H3 sp (SetTx w sp (gathered (e.row ++ [e2.name])))) l2 (.lst (zs.map V.str))) (a := t2) (o := .tup (zs.map V.str)))
    have dE := (show EntAt K _ (.ref te) ⟨e.name, e.fee, e.has, zs⟩ from ⟨te, t2, rfl, .inl (.inl upd_same), .inl (.inl eT2)⟩)
    have s16 := s15.trans s6
    have dq6 : Dp K _ (.ref q0) (.tuple (g.es.map dEnt)) := .tup (tupS s16 hq2) (ents_dp (hE2.same s16))
    have hpw6 := tupS s16 hpw2
    have fd6 := fd2.same s16
    have kp6 := kp.trans (keep_same s16)
    refine (show ∀ G, Dp K G (.ref te) (dEnt ⟨e.name, e.fee, e.has, zs⟩) → Dp K G (.ref q0) (.tuple (g.es.map dEnt)) → SqT K G pwd [.ref q0, .str g.asks] → Fd f a ns G (c + 1 + 1) → Keep f H G → _ from fun G dE dq6 hpw6 fd6 kp6 => ?_) _ dE.dp dq6 hpw6 fd6 kp6
    dsimp only [gName, List.set]
    have lm : (g.es.map dEnt).length = g.es.length := List.length_map ..
    refine ⟨.ref pwd, rfl, pwd, _, 0, .ref q0, rfl, rfl, hpw6, atI_nat (j := 0) rfl, .int ((k : Nat) : Int), rfl, ((k : Nat) : Int), rfl, slA_take (k := k) (ds := g.es.map dEnt) dq6 (by omega) fun r3 G1 s1 d1 => ⟨.ref te, rfl, (show 1 ≤ sizeLine by decide), fun t3 nt3 => ?_⟩⟩
    have s2 := same_new (o := .tup [.ref te]) nt3
    have s12 := s1.trans s2
    refine catA (ds := (g.es.map dEnt).take k) (es := [dEnt ⟨e.name, e.fee, e.has, zs⟩]) (dKeep s2 d1) (.tup (.inl (.inl upd_same)) (.cons (dKeep s12 dE) .nil)) (by rw [List.length_take]; show _ + 1 ≤ 1000; omega) fun r4 G3 s3 d3 => ?_
    have s13 := s12.trans s3
    refine ⟨.ref pwd, rfl, pwd, _, 0, .ref q0, rfl, rfl, tupS s13 hpw6, atI_nat (j := 0) rfl, .int ((k : Nat) : Int), rfl, ((k : Nat) : Int), 1, rfl, rfl, ((k : Nat) : Int) + 1, rfl, ?_⟩
    dsimp only [tNoPart]
    refine slA_drop (k := k + 1) (ds := g.es.map dEnt) (dKeep s13 dq6) fun r5 G4 s4 d4 => ?_
    refine catA (dKeep s4 d3) d4 (by rw [List.length_append, List.length_take, List.length_drop]; show _ + 1 + _ ≤ 1000; omega) fun r6 G5 s5 d5 => ?_
    have e6 : (g.es.map dEnt).take k ++ [dEnt ⟨e.name, e.fee, e.has, zs⟩] ++ (g.es.map dEnt).drop (k + 1) = (g.es.set k ⟨e.name, e.fee, e.has, zs⟩).map dEnt := by
      rw [List.map_set, List.set_eq_take_append_cons_drop, if_pos (by rw [lm]; omega), List.append_assoc]
      rfl
    rw [e6] at d5
    have s15 := s13.trans (s4.trans s5)
    obtain ⟨aq, xs6, rfl, h6, dx6, _⟩ := tupD d5
    have E6 := entsD_of dx6
    refine ⟨.ref pwd, rfl, pwd, _, 1, .str g.asks, rfl, rfl, tupS s15 hpw6, atI_nat (j := 1) rfl, (show 2 ≤ sizeLine by decide), fun tw ntw => ?_⟩
    have s7 := same_new (o := .tup [.ref aq, .str g.asks]) ntw
    obtain ⟨gw', wid⟩ := widen gw (e' := ⟨e.name, e.fee, e.has, zs⟩) he rfl rfl rfl (fun x hx => pm.mem_iff.mpr (mem_gathered.mpr (List.mem_append_left _ hx))) (fun x hx => memR x (mem_gathered.mp (pm.mem_iff.mp hx))) (pm.nodup_iff.mpr (nodup_gathered _))
      ⟨(gw.ok.2.1 e em).1, (gw.ok.2.1 e em).2.1, by show zs.length ≤ 8; rw [pm.length_eq]; omega, fun x hx => by
        obtain ⟨y, hy, e'⟩ := List.mem_map.mp (memR x (mem_gathered.mp (pm.mem_iff.mp hx)))
        rw [← e']
        exact (gw.ok.2.1 y hy).1⟩
    exact q _ _ _ (kp6.trans (keep_same (s15.trans s7))) ((fd6.same s15).same s7) (show PgAt K _ (.ref tw) ⟨g.es.set k ⟨e.name, e.fee, e.has, zs⟩, g.asks⟩ from ⟨tw, aq, xs6, rfl, .inl (.inl upd_same), tupS s7 h6, E6.same s7⟩) gw' wid
end
end Kn


namespace Kn
open PySem PySem.Spec PyProof.Rows L2
abbrev nLaw : List Str := ["_law_script", "_law_feed_here", "_law_lap", "_law_net", "_law_power", "_law_sizes", "_law_told", "_law_names", "_law_tops_here", "_law_near", "_law_some", "_law_wider_here", "_law_lot", "_law_late", "_law_own", "_law_k"]
theorem scLaw : FnScope nLaw ["_law_script"] (defScope (topS 38)) := ⟨rfl, rfl, rfl, by decide +kernel, rfl, by decide +kernel, by decide +kernel⟩
structure ShowD (d : PyData) : Prop where
  s : d.showable = true
  h : d.hasDict = false
  dp : d.depth ≤ 20
  ln : d.shown.length ≤ sizeLine
theorem show_of {d : PyData} (g : goodD d = true) (dp : d.depth ≤ 20) (n : nodesD d ≤ 1000) : ShowD d := by
  obtain ⟨s1, s2, s3⟩ := good_shown _ g
  exact ⟨s1, s2, dp, Nat.le_trans (show d.shown.length ≤ 200000 by omega) (by decide)⟩
def dB (g : Pg) (b : Str → Int) : PyData := .tuple ((namesG g).map fun n => PyData.int (b n))
def dR (g : Pg) (b : Str → Int) : PyData := .tuple (((namesG g).filter fun n => decide (0 ≤ b n)).map PyData.str)
theorem best_small {g : Pg} {p : Int} {b : Str → Int} (G : GW g) (p6 : p ≤ 6) (h : BestOf g p b) : ∀ n ∈ namesG g, -1 ≤ b n ∧ b n ≤ 6 := fun n hn => by
  rcases h.got n hn with e | r
  · rw [e]
    omega
  · have h1 := r.pos
    have h2 := (r.lt G).1
    dsimp only at h1 h2
    omega
theorem ints_good {b : Str → Int} : ∀ {l : List Str}, (∀ n ∈ l, -1 ≤ b n ∧ b n ≤ 6) → goodDs (l.map fun n => PyData.int (b n)) = true ∧ nodesDs (l.map fun n => PyData.int (b n)) = l.length ∧ PyData.depthAll (l.map fun n => PyData.int (b n)) = 0
  | [], _ => ⟨rfl, rfl, rfl⟩
  | x :: r, h => by
    obtain ⟨a, c, d⟩ := ints_good (l := r) fun n hn => h n (List.mem_cons_of_mem _ hn)
    have z := h x (List.mem_cons_self ..)
    refine ⟨?_, ?_, ?_⟩
    · show (goodD (.int (b x)) && goodDs (r.map fun n => PyData.int (b n))) = true
      rw [int_good (by omega), a]
      rfl
    · show 1 + nodesDs (r.map fun n => PyData.int (b n)) = r.length + 1
      omega
    · show max 0 (PyData.depthAll (r.map fun n => PyData.int (b n))) = 0
      omega
theorem strs_deep0 : ∀ {l : List Str}, PyData.depthAll (l.map PyData.str) = 0
  | [] => rfl
  | x :: r => by
    have a := strs_deep0 (l := r)
    show max 0 (PyData.depthAll (r.map PyData.str)) = 0
    omega
theorem outB_dp {K : PySem.W.Frag} {H : Hp} {g : Pg} {b : Str → Int} {q : Addr} (e : H q = some (.tup (outB g b))) : Dp K H (.ref q) (dB g b) := by
  refine .tup (.inl (.inl e)) ?_
  unfold outB
  generalize namesG g = l
  induction l with
  | nil => exact .nil
  | cons x r ih => exact .cons (.int _) ih
theorem outR_dp {K : PySem.W.Frag} {H : Hp} {g : Pg} {b : Str → Int} {q : Addr} (e : H q = some (.tup (outR g b))) : Dp K H (.ref q) (dR g b) := by
  refine .tup (.inl (.inl e)) ?_
  unfold outR
  generalize ((namesG g).filter fun n => decide (0 ≤ b n)) = l
  induction l with
  | nil => exact .nil
  | cons x r ih => exact .cons (.str _) ih
theorem out_eq {g : Pg} {p : Int} {b c : Str → Int} (hb : BestOf g p b) (hc : BestOf g p c) : outB g b = outB g c ∧ outR g b = outR g c := by
  refine ⟨List.map_congr_left fun n hn => by rw [best_one hb hc hn], ?_⟩
  unfold outR
  rw [List.filter_congr fun n hn => by rw [best_one hb hc hn]]
theorem bm_call {K : PySem.W.Frag} {D : Addr} {out : Pg → (Str → Int) → List V} {w0 : V} {g : Pg} {p : Int} {H : Hp} {Q : VK} {E : XK} (pg : PgAt K H w0 g) (gw : GW g) (p0 : 0 ≤ p) (p6 : p ≤ 6)
    (k : ∀ (q : Addr) (b : Str → Int) (H' : Hp), Same H H' → BestOf g p b → H' q = some (.tup (out g b)) → Q (.ref q) H') : spBm K D out [w0, .int p] H Q E :=
  ⟨w0, .int p, g, .int p, rfl, pg, .int p, fun z => absurd p0 (of_decide_eq_false z), fun p' e _ => by
    obtain rfl : p = p' := PyData.int.inj e
    exact ⟨gw, p6, k⟩⟩
theorem best_showB {g : Pg} {p : Int} {b : Str → Int} (G : GW g) (p6 : p ≤ 6) (h : BestOf g p b) : ShowD (dB g b) ∧ ShowD (dR g b) := by
  obtain ⟨a1, a2, a3⟩ := ints_good (l := namesG g) (best_small G p6 h)
  have nm : ∀ n ∈ namesG g, nameB (.str n) = true := fun n hn => by
    obtain ⟨e, he, rfl⟩ := List.mem_map.mp hn
    exact G.nm e he
  obtain ⟨b1, b2⟩ := strs_good (ts := (namesG g).filter fun n => decide (0 ≤ b n)) fun n hn => nm n (List.mem_filter.mp hn).1
  have b3 := strs_deep0 (l := (namesG g).filter fun n => decide (0 ≤ b n))
  have l4 : (namesG g).length ≤ 4 := by
    have z : (namesG g).length = g.es.length := List.length_map ..
    have := G.few
    omega
  have lf := List.length_filter_le (fun n => decide (0 ≤ b n)) (namesG g)
  refine ⟨show_of a1 ?_ ?_, show_of b1 ?_ ?_⟩
  · show PyData.depthAll ((namesG g).map fun n => PyData.int (b n)) + 1 ≤ 20
    omega
  · show 1 + nodesDs ((namesG g).map fun n => PyData.int (b n)) ≤ 1000
    omega
  · show PyData.depthAll (((namesG g).filter fun n => decide (0 ≤ b n)).map PyData.str) + 1 ≤ 20
    omega
  · show 1 + nodesDs (((namesG g).filter fun n => decide (0 ≤ b n)).map PyData.str) ≤ 1000
    omega
theorem rep_nat (n c : Nat) : (List.replicate n [V.int ((c : Nat) : Int)]).flatten = (List.replicate n c).map fun m => V.int ((m : Nat) : Int) := by
  induction n with
  | zero => rfl
  | succ n ih =>
    rw [List.replicate_succ, List.flatten_cons, ih, List.replicate_succ, List.map_cons]
    rfl
theorem szOf_sum {g : Pg} (s0 : List Nat) : (szOf g s0).sum ≤ s0.sum := by
  unfold szOf
  generalize namesG g = ns
  induction ns generalizing s0 with
  | nil => exact Nat.zero_le _
  | cons n r ih =>
    match s0 with
    | [] => exact Nat.le_refl _
    | x :: s =>
      rw [List.zip_cons_cons, List.map_cons, List.sum_cons, List.sum_cons]
      have := ih s
      dsimp only
      split <;> omega
theorem tops_two {g : Pg} (G : GW g) {p : Int} {b : Str → Int} (B : BestOf g p b) {T : List Int} (h : TopsOk g p (List.replicate g.es.length 2) T) : T = (namesG g).map b := by
  obtain ⟨L, C, low⟩ := h.low
  have lnm : (namesG g).length = g.es.length := List.length_map ..
  have at2 : ∀ k, k < g.es.length → (List.replicate g.es.length 2)[k]? = some 2 := fun k hk => by rw [List.getElem?_replicate, if_pos hk]
  refine tops_best G B C (fun k n x hn na hx => ?_) (by rw [szOf_len (List.length_replicate)]; exact lnm.symm) (by rw [lnm]; exact h.l) h.upp fun S hS s hs c t ht k x hk hx => ?_
  · have kl := (List.getElem?_eq_some_iff.mp hn).1
    rw [szOf_at hn (at2 k (by omega)), if_neg na] at hx
    rw [← Option.some.inj hx]
    decide
  · have kl := (List.getElem?_eq_some_iff.mp hk).1
    exact low S hS s hs c t ht k x 2 hk hx (at2 k (by omega)) (.inr (by decide))
theorem tops_low {g : Pg} (G : GW g) {p : Int} (p6 : p ≤ 6) {b : Str → Int} (B : BestOf g p b) {s0 : List Nat} {T : List Int} (h : TopsOk g p s0 T) {k : Nat} {n : Str} {x : Int} (hn : (namesG g)[k]? = some n) (hx : T[k]? = some x) : x ≤ b n := by
  rcases h.upp k n x hn hx with z | z
  · have := best_small G p6 B n (List.mem_of_getElem? hn)
    omega
  · exact B.all _ z
theorem tup_own {H : Hp} {p L : Addr} {xs ys : List V} {o' : HO} (h : H p = some (.tup xs)) (l : H L = some (.lst ys)) : upd H L o' p = some (.tup xs) := (ts_lst l).1 _ _ h
def LotAt49 (g : Pg) (b : Str → Int) (xs : List V) (G : Hp) : Prop := ∀ x ∈ xs, ∃ (q : Addr) (bb : Str → Int), x = .ref q ∧ G q = some (.tup ((namesG g).map fun n => V.int (bb n))) ∧ ∀ n ∈ namesG g, b n ≤ bb n
theorem lot49_add {g : Pg} {b b' : Str → Int} {xs : List V} {G G1 : Hp} {L q : Addr} {o' : HO} {ys : List V} (h : LotAt49 g b xs G) (s : Same G G1) (eL : G1 L = some (.lst ys)) (e : G1 q = some (.tup ((namesG g).map fun n => V.int (b' n)))) (le : ∀ n ∈ namesG g, b n ≤ b' n) : LotAt49 g b (xs ++ [.ref q]) (upd G1 L o') := fun x hx => by
  rcases List.mem_append.mp hx with hx | hx
  · obtain ⟨q, bb, h1, h2, h3⟩ := h x hx
    exact ⟨q, bb, h1, tup_own (s _ _ h2) eL, h3⟩
  · exact ⟨q, b', List.mem_singleton.mp hx, tup_own e eL, le⟩
theorem fd_own49 {f a : Addr} {ns : List Int} {H : Hp} {c : Nat} {L : Addr} {o : HO} (h : Fd f a ns H c) (n : L ≠ f) (na : L ≠ a) : Fd f a ns (upd H L o) c := by
  obtain ⟨⟨kvs, t, x, n1, h1, h2⟩, h6, h7⟩ := h
  exact ⟨⟨kvs, t, x, n1, (upd_ne n.symm).trans h1, h2⟩, (upd_ne na.symm).trans h6, h7⟩
def spLaw (K : PySem.W.Frag) : Sp := fun vs H Q _ => ∃ (a : Addr) (ns : List Int), vs = [.ref a] ∧ SqL K H a (ns.map V.int) ∧ ns.length ≤ 63 ∧ ∀ H', Q (.bl true) H'
section
variable {P : Program} {w : World} {K : PySem.W.Frag} {mg : Str → Option Value} {base : Heap}
theorem ok_law {g DU gB gA gT gS gW gR f1 f2 : Addr} {fd fB fA fT fS fW fR d1 d2 : FuncData} (F : Fun K "law" "law" (topS 38) g fd)
    (B : Def K mg "_law_feed" 22 ["_law_script"] gB fB) (OB : FnOk P w K mg base CX0 1 gB fB ["_law_script"] (spStart K))
    (As : Def K mg "_law_asked" 32 ["_law_feed_here", "_law_bound"] gA fA) (OA : FnOk P w K mg base CX0 4 gA fA ["_law_feed_here", "_law_bound"] (spAk K))
    (Tp : Def K mg "_law_tops" 36 ["_law_net", "_law_sizes", "_law_power"] gT fT) (OT : FnOk P w K mg base CX0 5 gT fT ["_law_net", "_law_sizes", "_law_power"] (spTp K))
    (Sm : Def K mg "_law_small" 35 ["_law_sizes"] gS fS) (OS : FnOk P w K mg base CX0 1 gS fS ["_law_sizes"] (spSm K))
    (Wi : Def K mg "_law_wider" 37 ["_law_feed_here", "_law_net"] gW fW) (OW : FnOk P w K mg base CX0 2 gW fW ["_law_feed_here", "_law_net"] (spWi K))
    (Pa : Def K mg "_law_pairs" 27 ["_law_net", "_law_power"] gR fR) (OR : FnOk P w K mg base CX0 3 gR fR ["_law_net", "_law_power"] (spLq K))
    (A1 : Def K mg "best_marks" 19 ["web", "marks"] f1 d1) (O1 : FnOk P w K mg base (L2.CX P w) 4 f1 d1 ["web", "marks"] (spBm K DU outB))
    (A2 : Def K mg "near_of" 20 ["web", "marks"] f2 d2) (O2 : FnOk P w K mg base (L2.CX P w) 5 f2 d2 ["web", "marks"] (spBm K DU outR))
    (mp : mg "repr" = none) (mr : mg "range" = none) (mt : mg "tuple" = none) (ml : mg "len" = none) :
    Vow P w K mg base 10 g fd ["_law_script"] (spLaw K) := by
  refine Vow.body F scLaw (fun vs H Q E h => ?_) (fun cdv A outer s H vs Q E hq hr h => ?_)
  · obtain ⟨a, ns, rfl, _⟩ := h
    rfl
  · obtain ⟨a0, ns0, rfl, hS, hl, q⟩ := h
    refine ⟨_, (pss_cons (ps_set (i := 1) scLaw.nd rfl (.inl rfl) (pe_call OB (hr.mono (by decide)) (by rfl) B.m B.F.kp B.b .nil pass0 (pa_cons (pv 0) pa_nil)))
      (pss_cons (ps_for PassesOwn.never rfl (pi_range1 (by rfl) mr (pa_cons pe_int pa_nil)) (pg_name (i := 2) scLaw.nd rfl (.inl rfl)) (pss_cons (ps_asg (pe_call OA (hr.mono (by decide)) (by rfl) As.m As.F.kp As.b .nil pass0 (pa_cons (pv 1) (pa_cons pe_int pa_nil))) (pg_tup (by rfl) (pgs_cons (pg_name (i := 3) scLaw.nd rfl (.inl rfl)) (pgs_cons (pg_name (i := 4) scLaw.nd rfl (.inl rfl)) (pgs_cons (pg_name (i := 5) scLaw.nd rfl (.inl rfl)) pgs_nil)))))
      (pss_cons (ps_asg (pe_tup (pa_cons (pe_call O1 (hr.mono (by decide)) (by rfl) A1.m A1.F.kp A1.b .nil passF (pa_cons (pv 3) (pa_cons (pv 4) pa_nil))) (pa_cons (pe_lc (own := [("_law_own", 14)]) (g := gName 14) (by rfl) scLaw.nd (pi_tup (pe_ix ix_tup (pv 3) pe_int (fun _ _ => rfl))) (blkOk_by (own := [("_law_own", 14)]) (N := nLaw) (sc := defScope (topS 38)) (by decide +kernel)) (fun _ _ _ _ _ => (pg_name (i := 14) scLaw.nd rfl (Or.inl rfl))) (fun _ _ _ _ _ => pts_nil) (fun _ _ _ _ _ => (pe_ix (r := rIxT K) ix_tup (pv 14) pe_int (fun _ _ => rfl)))) pa_nil))) (pg_tup (by rfl) (pgs_cons (pg_name (i := 6) scLaw.nd rfl (.inr rfl)) (pgs_cons (pg_name (i := 7) scLaw.nd rfl (.inr rfl)) pgs_nil))))
      (pss_cons (ps_set (i := 8) scLaw.nd rfl (.inr rfl) (pe_call OT (hr.mono (by decide)) (by rfl) Tp.m Tp.F.kp Tp.b .nil pass0 (pa_cons (pv 3) (pa_cons (pe_op (r := rMulN K) op_mulN0 (pe_tup (pa_cons pe_int pa_nil)) (pe_callB call_len_seq (by rfl) ml PySem.boot_len (pa_cons (pv 7) pa_nil))) (pa_cons (pv 4) pa_nil)))))
      (pss_cons (ps_if (pt_cmpR op_ne (pe_callB (call_showV hq hr.units) (by rfl) mp boot_repr (pa_cons (pv 6) pa_nil)) (pe_callB (call_showV hq hr.units) (by rfl) mp boot_repr (pa_cons (pv 8) pa_nil)) (nomark _)) (pss_one (ps_ret pe_bl)) pss_nil)
      (pss_cons (ps_set (i := 9) scLaw.nd rfl (.inl rfl) (pe_callTy call_tuple_of (by rfl) mt (by decide +kernel) (pa_cons (pe_lc (own := [("_law_k", 15)]) (g := gName 15) (by rfl) scLaw.nd (pi_range1 (by rfl) mr (pa_cons (pe_callB call_len_seq (by rfl) ml PySem.boot_len (pa_cons (pv 7) pa_nil)) pa_nil)) (blkOk_by (own := [("_law_k", 15)]) (N := nLaw) (sc := defScope (topS 38)) (by decide +kernel)) (fun _ _ _ _ _ => (pg_name (i := 15) scLaw.nd rfl (Or.inl rfl))) (fun _ _ _ _ _ => (pts_one (pt_cmpR op_ge (pe_ix (r := rIxT K) ix_tup (pv 8) (pv 15) (fun _ _ => rfl)) pe_int (nomark _)))) (fun _ _ _ _ _ => (pe_ix (r := rIxL K) ix_list (pv 7) (pv 15) (fun _ _ => rfl)))) pa_nil)))
      (pss_cons (ps_if (pt_cmpR op_ne (pe_callB (call_showV hq hr.units) (by rfl) mp boot_repr (pa_cons (pe_call O2 (hr.mono (by decide)) (by rfl) A2.m A2.F.kp A2.b .nil passF (pa_cons (pv 3) (pa_cons (pv 4) pa_nil))) pa_nil)) (pe_callB (call_showV hq hr.units) (by rfl) mp boot_repr (pa_cons (pv 9) pa_nil)) (nomark _)) (pss_one (ps_ret pe_bl)) pss_nil)
      (pss_cons (ps_for PassesOwn.never rfl (pi_list (pe_lst (pa_cons (pe_op (r := rMulN K) op_mulN0 (pe_tup (pa_cons pe_int pa_nil)) (pe_callB call_len_seq (by rfl) ml PySem.boot_len (pa_cons (pv 7) pa_nil))) (pa_cons (pe_call OS (hr.mono (by decide)) (by rfl) Sm.m Sm.F.kp Sm.b .nil pass0 (pa_cons (pv 5) pa_nil)) pa_nil)))) (pg_name (i := 10) scLaw.nd rfl (.inl rfl)) (pss_cons (ps_set (i := 8) scLaw.nd rfl (.inr rfl) (pe_call OT (hr.mono (by decide)) (by rfl) Tp.m Tp.F.kp Tp.b .nil pass0 (pa_cons (pv 3) (pa_cons (pv 10) (pa_cons (pv 4) pa_nil)))))
      (pss_one (ps_if (pt_cmpR (op_neD hr.units) (pe_lc (own := [("_law_k", 15)]) (g := gName 15) (by rfl) scLaw.nd (pi_range1 (by rfl) mr (pa_cons (pe_callB call_len_seq (by rfl) ml PySem.boot_len (pa_cons (pv 7) pa_nil)) pa_nil)) (blkOk_by (own := [("_law_k", 15)]) (N := nLaw) (sc := defScope (topS 38)) (by decide +kernel)) (fun _ _ _ _ _ => (pg_name (i := 15) scLaw.nd rfl (Or.inl rfl))) (fun _ _ _ _ _ => (pts_one (pt_cmpR op_gt (pe_ix (r := rIxT K) ix_tup (pv 8) (pv 15) (fun _ _ => rfl)) (pe_ix (r := rIxT K) ix_tup (pv 6) (pv 15) (fun _ _ => rfl)) (nomark _)))) (fun _ _ _ _ _ => (pv 15))) (pe_lst pa_nil) (nomark _)) (pss_one (ps_ret pe_bl)) pss_nil))))
      (pss_cons (ps_par (i := 11) (j := 12) (by rfl) scLaw.nd rfl rfl (by decide) rfl rfl (pa_cons (pe_call OW (hr.mono (by decide)) (by rfl) Wi.m Wi.F.kp Wi.b .nil pass0 (pa_cons (pv 1) (pa_cons (pv 3) pa_nil))) (pa_cons (pe_lst pa_nil) pa_nil)) (by rfl))
      (pss_cons (ps_if (pt_cmpR op_lt (pe_callB call_len_seq (by rfl) ml PySem.boot_len (pa_cons (pe_call OR (hr.mono (by decide)) (by rfl) Pa.m Pa.F.kp Pa.b .nil pass0 (pa_cons (pv 11) (pa_cons (pv 4) pa_nil))) pa_nil)) pe_int (nomark _)) (pss_one (ps_expr (pe_bm PySem.F.plainAttrs_list PySem.F.slot_list_append PySem.F.type_list_append mt_append (pv 12) (pa_cons (pe_call O1 (hr.mono (by decide)) (by rfl) A1.m A1.F.kp A1.b .nil passF (pa_cons (pv 11) (pa_cons (pv 4) pa_nil))) pa_nil)))) pss_nil)
      (pss_cons (ps_if (pt_cmpR op_lt (pv 4) pe_int (nomark _)) (pss_one (ps_expr (pe_bm PySem.F.plainAttrs_list PySem.F.slot_list_append PySem.F.type_list_append mt_append (pv 12) (pa_cons (pe_call O1 (hr.mono (by decide)) (by rfl) A1.m A1.F.kp A1.b .nil passF (pa_cons (pv 3) (pa_cons (pe_op op_add (pv 4) pe_int) pa_nil))) pa_nil)))) pss_nil)
      (pss_one (ps_for PassesOwn.never rfl (pi_list (pv 12)) (pg_name (i := 13) scLaw.nd rfl (.inr rfl)) (pss_one (ps_if (pt_cmpR (op_neD hr.units) (pe_lc (own := [("_law_k", 15)]) (g := gName 15) (by rfl) scLaw.nd (pi_range1 (by rfl) mr (pa_cons (pe_callB call_len_seq (by rfl) ml PySem.boot_len (pa_cons (pv 7) pa_nil)) pa_nil)) (blkOk_by (own := [("_law_k", 15)]) (N := nLaw) (sc := defScope (topS 38)) (by decide +kernel)) (fun _ _ _ _ _ => (pg_name (i := 15) scLaw.nd rfl (Or.inl rfl))) (fun _ _ _ _ _ => (pts_one (pt_cmpR op_lt (pe_ix (r := rIxT K) ix_tup (pv 13) (pv 15) (fun _ _ => rfl)) (pe_ix (r := rIxT K) ix_tup (pv 6) (pv 15) (fun _ _ => rfl)) (nomark _)))) (fun _ _ _ _ _ => (pv 15))) (pe_lst pa_nil) (nomark _)) (pss_one (ps_ret pe_bl)) pss_nil)))))))))))))))
      (pss_one (ps_ret pe_bl)))), ?_⟩
    refine asg_seq ⟨.ref a0, rfl, a0, ns0, rfl, hS, hl, fun f a ms H1 nf s1 fd1 => ?_⟩
    dsimp only [gName]
    refine ⟨2, rfl, by decide, by decide, for_range (lo := 0) (n := (2 : Int).toNat) (fun i σ J => ∃ (y2 y3 y4 y5 y6 y7 y8 y9 y10 y11 y12 y13 y14 y15 : Option V) (c : Nat), σ = [some (.ref a0), some (.ref f), y2, y3, y4, y5, y6, y7, y8, y9, y10, y11, y12, y13, y14, y15] ∧ c ≤ 72 * i ∧ Fd f a ms J c)
      ⟨_, _, _, _, _, _, _, _, _, _, _, _, _, _, 0, rfl, Nat.zero_le _, fd1⟩ ?_ ?_⟩
    · rintro i σ J hi ⟨y2, y3, y4, y5, y6, y7, y8, y9, y10, y11, y12, y13, y14, y15, c, rfl, lc, fdJ⟩
      have hi : i < 2 := hi
      dsimp only
      refine asg_seq ⟨.ref f, rfl, f, a, ms, c, 6, rfl, fdJ, by omega, by decide, fun t z v g pw qs J1 kp1 fdA ec pg C ez lz bz => ?_⟩
      have gw := C.gw
      have few := gw.few
      have p0 := C.p0
      have p6 := C.p6
      have lnm : (namesG g).length = g.es.length := List.length_map ..
      have pos : 0 < g.es.length := by
        have := List.length_pos_of_mem gw.asks
        rw [List.length_map] at this
        exact this
      refine ⟨t, _, rfl, .inl (.inl ec), rfl, _, _, rfl, _, _, rfl, _, _, rfl, rfl, ?_⟩
      dsimp only [gName, List.set]
      obtain ⟨pwd, q0, ws, rfl, hpw, hq0, hE⟩ := id pg
      have lws := hE.len
      refine asg_seq ⟨.ref pwd, rfl, .int pw, rfl, bm_call (out := outB) pg gw p0 p6 fun q1 b J2 s1 best e1 => ?_⟩
      refine lc_mapT (a := q0) (xs := ws) ((g.es.map (·.name)).map V.str) (by simp; omega) (by omega) (tupS s1 hq0) (fun R r => ⟨.ref pwd, rfl, pwd, _, 0, .ref q0, rfl, rfl, tupS s1 hpw, atI_nat (j := 0) rfl, r⟩) (fun v => rfl) ?_ ?_
      · intro k x y G2 R hx hy sm kk
        obtain ⟨e, he, ⟨pe, qe, rfl, he1, _⟩⟩ := hE.get hx
        obtain ⟨n, hn, rfl⟩ := map_get hy
        obtain ⟨e', he', rfl⟩ := map_get hn
        obtain rfl : e = e' := Option.some.inj (he.symm.trans he')
        exact ⟨.ref pe, rfl, pe, _, 0, .str e.name, rfl, rfl, tupS (s1.trans sm) he1, atI_nat (j := 0) rfl, kk G2 (Same.refl G2)⟩
      intro nl J3 nnl sN eN
      refine ⟨(show 2 ≤ sizeLine by decide), fun tk ntk => ?_⟩
      have sk := same_new (o := .tup [.ref q1, .ref nl]) ntk
      have ek : (upd J3 tk (.tup [.ref q1, .ref nl])) tk = some (.tup [.ref q1, .ref nl]) := upd_same
      have eN4 := sk _ _ eN
      have s14 := s1.trans (sN.trans sk)
      have e14 := (sN.trans sk) _ _ e1
      have pg4 := pg.same s14
      have fd4 := fdA.same s14
      have ez4 := s14 _ _ ez
      generalize upd J3 tk (.tup [.ref q1, .ref nl]) = J4 at ek eN4 e14 pg4 fd4 ez4 ⊢
      clear s14 sk sN s1 e1 eN ntk nnl hpw hq0 hE ec ez fdA pg
      refine ⟨tk, _, rfl, .inl (.inl ek), rfl, _, _, rfl, _, _, rfl, rfl, ?_⟩
      clear ek
      dsimp only [gName, List.set]
      have lvs : (((g.es.map (·.name)).map V.str).length) = g.es.length := by rw [List.length_map, List.length_map]
      -- the tops of twos
      refine asg_seq ⟨.ref pwd, rfl, (show 1 ≤ sizeLine by decide), fun t2 nt2 => ?_⟩
      have s2 := same_new (o := .tup [.int 2]) nt2
      have e2 : (upd J4 t2 (.tup [.int 2])) t2 = some (.tup [.int 2]) := upd_same
      refine ⟨.ref nl, rfl, nl, _, rfl, .inl (.inl (.inl (s2 _ _ eN4))), t2, _, _, rfl, rfl, .inl (.inl e2), (fun z => by cases z), by omega, by omega, by decide, fun r2 J5 s5 hr2 => ?_⟩
      rw [Int.toNat_natCast, lvs, show (List.replicate g.es.length [V.int 2]).flatten = (List.replicate g.es.length 2).map fun m => V.int ((m : Nat) : Int) from rep_nat g.es.length 2] at hr2
      refine ⟨.int pw, rfl, .ref pwd, g, pw, r2, List.replicate g.es.length 2, rfl, pg4.same (s2.trans s5), gw, p6, hr2, List.length_replicate, (fun n hn => by rw [(List.mem_replicate.mp hn).2]; decide), Nat.le_trans (szOf_sum _) (Nat.le_trans (nsum_le (b := 2) fun n hn => by rw [(List.mem_replicate.mp hn).2]; exact Nat.le_refl 2) (by rw [List.length_replicate]; omega)), fun qt T J6 s6 et tops => ?_⟩
      have eT := tops_two gw best tops
      have eT2 : J6 qt = some (.tup (outB g b)) := by
        rw [et, eT, List.map_map]
        rfl
      have s46 := s2.trans (s5.trans s6)
      have eN6 := s46 _ _ eN4
      have e16 := s46 _ _ e14
      have pg6 := pg4.same s46
      have fd6 := fd4.same s46
      have ez6 := s46 _ _ ez4
      clear s46 s6 s5 s2 e2 nt2 hr2 et tops eT eN4 e14 pg4 fd4 ez4
      dsimp only [gName, List.set]
      obtain ⟨shB, shR⟩ := best_showB gw p6 best
      refine ⟨.ref q1, rfl, .ref q1, dB g b, rfl, outB_dp e16, shB.s, shB.h, shB.dp, shB.ln, .ref qt, rfl, .ref qt, dB g b, rfl, outB_dp eT2, shB.s, shB.h, shB.dp, shB.ln, rfl, _, rfl, ?_⟩
      rw [decide_eq_true rfl]
      refine iteF ?_
      dsimp only [tNext]
      -- the near ones
      refine asg_seq ⟨.ref nl, rfl, nl, _, rfl, .inl (.inl (.inl eN6)), _, rfl, by omega, by omega, fun D nD => ?_⟩
      refine lc_range (lo := 0) (n := ((((g.es.map (·.name)).map V.str).length : Nat) : Int).toNat) (fun k G2 => Same J6 G2 ∧ G2 D = some (.lst ((((namesG g).take k).filter fun n => decide (0 ≤ b n)).map V.str))) ⟨same_new nD, upd_same⟩ ?_ ?_
      · rintro k G2 hk ⟨sm, eD⟩
        have hk : k < (namesG g).length := by omega
        obtain ⟨n, hn⟩ : ∃ n, (namesG g)[k]? = some n := ⟨_, List.getElem?_eq_getElem hk⟩
        have tk : (namesG g).take (k + 1) = (namesG g).take k ++ [n] := by rw [List.take_add_one, hn]; rfl
        have ft : ((namesG g).take (k + 1)).filter (fun n => decide (0 ≤ b n)) = ((namesG g).take k).filter (fun n => decide (0 ≤ b n)) ++ (if 0 ≤ b n then [n] else []) := by
          rw [tk, List.filter_append]
          by_cases z : 0 ≤ b n <;> simp [z]
        have hb : (outB g b)[k]? = some (.int (b n)) := by
          unfold outB
          rw [List.getElem?_map, hn]
          rfl
        have hv : ((g.es.map (·.name)).map V.str)[k]? = some (.str n) := by
          rw [List.getElem?_map, show (g.es.map (·.name))[k]? = some n from hn]
          rfl
        rw [Int.zero_add, ft]
        refine ⟨rfl, .ref qt, rfl, .int ((k : Nat) : Int), rfl, qt, _, ((k : Nat) : Int), _, rfl, rfl, .inl (.inl (sm _ _ eT2)), atI_nat hb, b n, 0, rfl, rfl, _, rfl, ?_⟩
        by_cases z : 0 ≤ b n
        · rw [decide_eq_true z, if_pos z]
          have lf := List.length_filter_le (fun n => decide (0 ≤ b n)) ((namesG g).take k)
          have lt2 : ((namesG g).take k).length ≤ (namesG g).length := List.length_take_le' ..
          refine iteT ⟨.ref nl, rfl, .int ((k : Nat) : Int), rfl, nl, _, ((k : Nat) : Int), .str n, rfl, rfl, .inl (.inl (sm _ _ eN6)), atI_nat hv, _, eD, small' (by rw [List.length_map]; omega), putS sm nD, ?_⟩
          rw [upd_same, List.map_append]
          rfl
        · rw [decide_eq_false z, if_neg z, List.append_nil]
          exact iteF ⟨sm, eD⟩
      rintro G2 ⟨sm, eD⟩
      rw [show ((((g.es.map (·.name)).map V.str).length : Nat) : Int).toNat = (namesG g).length by omega, List.take_length] at eD
      refine ⟨D, _, rfl, .inl ⟨.inl (.inl eD), fun tn ntn => ?_⟩⟩
      dsimp only [gName, List.set]
      have st := same_new (o := .tup (((namesG g).filter fun n => decide (0 ≤ b n)).map V.str)) ntn
      have eR : (upd G2 tn (.tup (((namesG g).filter fun n => decide (0 ≤ b n)).map V.str))) tn = some (.tup (outR g b)) := upd_same
      have s67 := sm.trans st
      have eN7 := s67 _ _ eN6
      have e17 := s67 _ _ e16
      have pg7 := pg6.same s67
      have fd7 := fd6.same s67
      have ez7 := s67 _ _ ez6
      generalize upd G2 tn (.tup (((namesG g).filter fun n => decide (0 ≤ b n)).map V.str)) = J7 at eR eN7 e17 pg7 fd7 ez7 ⊢
      clear s67 st sm eD nD ntn eN6 e16 pg6 fd6 ez6 eT2
      refine ⟨.ref pwd, rfl, .int pw, rfl, bm_call (out := outR) pg7 gw p0 p6 fun q2 b2 J8 s8 best2 e2 => ?_⟩
      rw [(out_eq best2 best).2] at e2
      refine ⟨.ref q2, dR g b, rfl, outR_dp e2, shR.s, shR.h, shR.dp, shR.ln, .ref tn, rfl, .ref tn, dR g b, rfl, outR_dp (s8 _ _ eR), shR.s, shR.h, shR.dp, shR.ln, rfl, _, rfl, ?_⟩
      rw [decide_eq_true rfl]
      refine iteF ?_
      dsimp only [tNext]
      have eN8 := s8 _ _ eN7
      have e18 := s8 _ _ e17
      have pg8 := pg7.same s8
      have fd8 := fd7.same s8
      have ez8 := s8 _ _ ez7
      clear s8 eN7 e17 pg7 fd7 ez7 eR e2 best2
      -- some numbers more
      refine seq_mid (fun σ G => ∃ (y8 y10 : Option V), σ = [some (.ref a0), some (.ref f), some (.int (0 + (i : Int))), some (.ref pwd), some (.int pw), some (.ref z), some (.ref q1), some (.ref nl), y8, some (.ref tn), y10, y11, y12, y13, y14, y15] ∧ Same J8 G) ?_ ?_
      · rintro σ G ⟨y8, y10, rfl, sG⟩
        have eN := sG _ _ eN8
        have e1 := sG _ _ e18
        have pgG := pg8.same sG
        have fdG := fd8.same sG
        clear eN8 e18 pg8 fd8 ez8 sG
        refine ⟨.ref f, rfl, .ref pwd, rfl, f, a, ms, c + 70, .ref pwd, g, rfl, fdG, by omega, pgG, gw, fun v' g' G1 kp fd' pg' gw' wid => ⟨(show 0 ≤ sizeLine by decide), fun L nL => ⟨_, _, rfl, ?_⟩⟩⟩
        have tS := ts_fd fdG kp
        have sL := same_new (o := .lst []) nL
        have eL : (upd G1 L (.lst [])) L = some (.lst []) := upd_same
        have eN1 : G1 nl = some (.lst ((g.es.map (·.name)).map V.str)) := kp _ _ (fd_ne fdG eN) eN
        have neNL : nl ≠ L := ne_of_none eN1 nL
        have eN2 := sL _ _ eN1
        have e12 : (upd G1 L (.lst [])) q1 = some (.tup (outB g b)) := sL _ _ (tS.1 _ _ e1)
        have pg2 := (pgG.ts tS).same sL
        have pgw2 := pg'.same sL
        have fd2 := fd'.same sL
        have fL : L ≠ f := fd_ne fd2 eL
        have aL : L ≠ a := (ne_of_none fd'.cl nL).symm
        generalize upd G1 L (.lst []) = G2 at eL eN2 e12 pg2 pgw2 fd2 ⊢
        clear sL tS nL eN1 pg' fd' kp pgG fdG e1 eN
        dsimp only [gName, List.set]
        refine seq_mid (fun σ G => σ = [some (.ref a0), some (.ref f), some (.int (0 + (i : Int))), some (.ref pwd), some (.int pw), some (.ref z), some (.ref q1), some (.ref nl), y8, some (.ref tn), y10, some v', some (.ref L), y13, y14, y15] ∧ ∃ xs : List V, xs.length ≤ 1 ∧ G L = some (.lst xs) ∧ LotAt49 g b xs G ∧ G nl = some (.lst ((g.es.map (·.name)).map V.str)) ∧ G q1 = some (.tup (outB g b)) ∧ PgAt K G (.ref pwd) g ∧ Fd f a ms G (c + 72)) ?_ ?_
        · rintro σ G ⟨rfl, xs, lxs, eL, hxs, eN, e1, pgG, fdG⟩
          clear eN2 e12 pg2 pgw2 fd2
          refine seq_mid (fun σ G => σ = [some (.ref a0), some (.ref f), some (.int (0 + (i : Int))), some (.ref pwd), some (.int pw), some (.ref z), some (.ref q1), some (.ref nl), y8, some (.ref tn), y10, some v', some (.ref L), y13, y14, y15] ∧ ∃ xs : List V, xs.length ≤ 2 ∧ G L = some (.lst xs) ∧ LotAt49 g b xs G ∧ G nl = some (.lst ((g.es.map (·.name)).map V.str)) ∧ G q1 = some (.tup (outB g b)) ∧ Fd f a ms G (c + 72)) ?_ ?_
          · rintro σ G ⟨rfl, xs, lxs, eL, hxs, eN, e1, fdG⟩
            refine ⟨.ref L, rfl, L, rfl, ⟨_, .inl (.inl eL)⟩, ?_⟩
            refine for_it (walk_list (K := K) (a := L) (xs := xs)) (fun j σ G' => ∃ (y13 : Option V), σ = [some (.ref a0), some (.ref f), some (.int (0 + (i : Int))), some (.ref pwd), some (.int pw), some (.ref z), some (.ref q1), some (.ref nl), y8, some (.ref tn), y10, some v', some (.ref L), y13, y14, y15] ∧ Same G G') ⟨_, rfl, Same.refl G⟩ (fun j σ G' _ ⟨_, _, sG⟩ => .inl (.inl (sG _ _ eL))) ?_ ?_
            · rintro j x σ G0 G4 hj ⟨y13, rfl, sG⟩ ⟨rfl, hx⟩
              obtain ⟨qx, bb, rfl, eqx, hbb⟩ := hxs x (List.mem_of_getElem? hx)
              dsimp only [gName, List.set]
              refine ⟨.ref nl, rfl, nl, _, rfl, .inl (.inl (.inl (sG _ _ eN))), _, rfl, by omega, by omega, fun D nD => ?_⟩
              refine lc_range (lo := 0) (n := ((((g.es.map (·.name)).map V.str).length : Nat) : Int).toNat) (fun k G5 => Same G4 G5 ∧ G5 D = some (.lst [])) ⟨same_new nD, upd_same⟩ ?_ ?_
              · rintro k G5 hk ⟨sm, eD⟩
                have hk : k < (namesG g).length := by omega
                obtain ⟨n, hn⟩ : ∃ n, (namesG g)[k]? = some n := ⟨_, List.getElem?_eq_getElem hk⟩
                have hb : (outB g b)[k]? = some (.int (b n)) := by
                  unfold outB
                  rw [List.getElem?_map, hn]
                  rfl
                have hb2 : ((namesG g).map fun n => V.int (bb n))[k]? = some (.int (bb n)) := by
                  rw [List.getElem?_map, hn]
                  rfl
                have le := hbb n (List.mem_of_getElem? hn)
                rw [Int.zero_add]
                refine ⟨rfl, .ref qx, rfl, .int ((k : Nat) : Int), rfl, qx, _, ((k : Nat) : Int), .int (bb n), rfl, rfl, .inl (.inl ((sG.trans sm) _ _ eqx)), atI_nat hb2, .ref q1, rfl, .int ((k : Nat) : Int), rfl, q1, _, ((k : Nat) : Int), _, rfl, rfl, .inl (.inl ((sG.trans sm) _ _ e1)), atI_nat hb, bb n, b n, rfl, rfl, _, rfl, ?_⟩
                rw [decide_eq_false (show ¬ bb n < b n by omega)]
                exact iteF ⟨sm, eD⟩
              rintro G5 ⟨sm, eD⟩
              refine ⟨(show 0 ≤ sizeLine by decide), fun l0 n0 => ?_⟩
              have s6 := same_new (o := .lst []) n0
              refine ⟨.list [], .list [], .lst (.inl (.inl (s6 _ _ eD))) .nil, .lst (.inl (.inl upd_same)) .nil, rfl, rfl, _, rfl, iteF ?_⟩
              exact ⟨_, rfl, (sG.trans sm).trans s6⟩
            · rintro σ G' ⟨y13, rfl, sG⟩
              exact ⟨_, _, _, _, _, _, _, _, _, _, _, _, _, _, c + 72, rfl, by omega, fdG.same sG⟩
          · intro R k
            refine ⟨.int pw, rfl, pw, 6, rfl, rfl, _, rfl, ?_⟩
            by_cases lt : pw < 6
            · rw [decide_eq_true lt]
              refine iteT ⟨.ref L, rfl, .inl ⟨rfl, _, .inl (.inl eL)⟩, .ref pwd, rfl, .int pw, rfl, pw, 1, rfl, rfl, bm_call (out := outB) pgG gw (by omega) (by omega) fun q b' G3 s3 best' e3 => ?_⟩
              have eL3 := s3 _ _ eL
              refine ⟨L, xs, _, rfl, rfl, eL3, small' (by omega), ?_⟩
              refine k _ _ ⟨rfl, xs ++ [.ref q], by rw [List.length_append]; show _ + 1 ≤ 2; omega, upd_same, lot49_add hxs s3 eL3 e3 (best_up best best'), (upd_ne neNL).trans (s3 _ _ eN), tup_own (s3 _ _ e1) eL3, fd_own49 (fdG.same s3) fL aL⟩
            · rw [decide_eq_false lt]
              exact iteF (k _ _ ⟨rfl, xs, by omega, eL, hxs, eN, e1, fdG⟩)
        · intro R k
          refine ⟨v', rfl, .int pw, rfl, v', g', pw, rfl, pgw2, gw', p0, p6, fun qp yp G3 s3 np ep hp => ⟨qp, yp, rfl, .inl (.inl (.inl ep)), ((yp.length : Nat) : Int), 13, rfl, rfl, _, rfl, ?_⟩⟩
          have eL3 := s3 _ _ eL
          have eN3 := s3 _ _ eN2
          have e13 := s3 _ _ e12
          have pg3 := pg2.same s3
          have fd3 := fd2.same s3
          by_cases lt : ((yp.length : Nat) : Int) < 13
          · rw [decide_eq_true lt]
            refine iteT ⟨.ref L, rfl, .inl ⟨rfl, _, .inl (.inl eL3)⟩, v', rfl, .int pw, rfl, bm_call (out := outB) (pgw2.same s3) gw' p0 p6 fun q b' G4 s4 best' e4 => ?_⟩
            have eL4 := s4 _ _ eL3
            refine ⟨L, [], _, rfl, rfl, eL4, small' (by decide), ?_⟩
            have e4' : G4 q = some (.tup ((namesG g).map fun n => V.int (b' n))) := by
              rw [← wid.nm]
              exact e4
            refine k _ _ ⟨rfl, [] ++ [.ref q], Nat.le_refl _, upd_same, lot49_add (fun x hx => by cases hx) s4 eL4 e4' (best_wid wid best best'), (upd_ne neNL).trans (s4 _ _ eN3), tup_own (s4 _ _ e13) eL4, (pg3.same s4).ts (ts_lst eL4), fd_own49 (fd3.same s4) fL aL⟩
          · rw [decide_eq_false lt]
            exact iteF (k _ _ ⟨rfl, [], Nat.zero_le _, eL3, (fun x hx => by cases hx), eN3, e13, pg3, fd3⟩)
      · intro R k
        have k8 : ∀ (n : Nat), n ≤ g.es.length → n ≤ 4 := fun n h => by omega
        refine ⟨(show 1 ≤ sizeLine by decide), fun t1 nt1 => ?_⟩
        have s1 := same_new (o := .tup [.int 1]) nt1
        have e1 : (upd J8 t1 (.tup [.int 1])) t1 = some (.tup [.int 1]) := upd_same
        refine ⟨.ref nl, rfl, nl, _, rfl, .inl (.inl (.inl (s1 _ _ eN8))), t1, _, _, rfl, rfl, .inl (.inl e1), (fun z => by cases z), by omega, by omega, by decide, fun r1 G1 sA hr1 => ?_⟩
        rw [Int.toNat_natCast, lvs, show (List.replicate g.es.length [V.int 1]).flatten = (List.replicate g.es.length 1).map fun m => V.int ((m : Nat) : Int) from rep_nat g.es.length 1] at hr1
        refine ⟨.ref z, rfl, z, qs, rfl, .inl (.inl ((s1.trans sA) _ _ ez8)), by omega, by omega, bz, fun t0 s0 G2 s2 e0 l0 s18 sum0 => ⟨(show 2 ≤ sizeLine by decide), fun L nL => ?_⟩⟩
        have s3 := same_new (o := .lst [.ref r1, .ref t0]) nL
        have eL : (upd G2 L (.lst [.ref r1, .ref t0])) L = some (.lst [.ref r1, .ref t0]) := upd_same
        have s13 := (s1.trans sA).trans (s2.trans s3)
        have hall : ∀ x ∈ [V.ref r1, .ref t0], ∃ zz ss, x = .ref zz ∧ SqT K (upd G2 L (.lst [.ref r1, .ref t0])) zz (ss.map fun n => V.int ((n : Nat) : Int)) ∧ ss.length = g.es.length ∧ (∀ n ∈ ss, 1 ≤ n ∧ n ≤ 8) ∧ (szOf g ss).sum ≤ 8 := fun x hx => by
          rcases List.mem_cons.mp hx with rfl | hx
          · refine ⟨r1, _, rfl, tupS (s2.trans s3) hr1, List.length_replicate, (fun n hn => by rw [(List.mem_replicate.mp hn).2]; decide), ?_⟩
            refine Nat.le_trans (szOf_sum _) (Nat.le_trans (nsum_le (b := 1) fun n hn => by rw [(List.mem_replicate.mp hn).2]; exact Nat.le_refl 1) ?_)
            rw [List.length_replicate]
            omega
          · rw [List.mem_singleton.mp hx]
            exact ⟨t0, s0, rfl, .inl (.inl (s3 _ _ e0)), by omega, s18, Nat.le_trans (szOf_sum _) sum0⟩
        generalize upd G2 L (.lst [.ref r1, .ref t0]) = G3 at eL s13 hall ⊢
        refine ⟨L, rfl, ⟨_, .inl (.inl eL)⟩, ?_⟩
        have eN3 := s13 _ _ eN8
        have e13 := s13 _ _ e18
        have pg3 := pg8.same s13
        refine for_it (walk_list (K := K) (a := L) (xs := [.ref r1, .ref t0])) (fun j σ G => ∃ (y8 y10 : Option V), σ = [some (.ref a0), some (.ref f), some (.int (0 + (i : Int))), some (.ref pwd), some (.int pw), some (.ref z), some (.ref q1), some (.ref nl), y8, some (.ref tn), y10, y11, y12, y13, y14, y15] ∧ Same G3 G) ⟨_, _, rfl, Same.refl G3⟩ (fun j σ G _ ⟨_, _, _, sG⟩ => .inl (.inl (sG _ _ eL))) ?_ ?_
        · rintro j x σ G0 G hj ⟨y8, y10, rfl, sG⟩ ⟨rfl, hx⟩
          obtain ⟨zz, ss, rfl, hzz, lss, ss18, sum8⟩ := hall x (List.mem_of_getElem? hx)
          dsimp only [gName, List.set]
          refine asg_seq ⟨.ref pwd, rfl, .ref zz, rfl, .int pw, rfl, .ref pwd, g, pw, zz, ss, rfl, pg3.same sG, gw, p6, tupS sG hzz, lss, ss18, sum8, fun qt T G4 s4 et tops => ?_⟩
          dsimp only [gName, List.set]
          have sG4 := sG.trans s4
          refine ⟨.ref nl, rfl, nl, _, rfl, .inl (.inl (.inl (sG4 _ _ eN3))), _, rfl, by omega, by omega, fun D nD => ?_⟩
          refine lc_range (lo := 0) (n := ((((g.es.map (·.name)).map V.str).length : Nat) : Int).toNat) (fun k G5 => Same G4 G5 ∧ G5 D = some (.lst [])) ⟨same_new nD, upd_same⟩ ?_ ?_
          · rintro k G5 hk ⟨sm, eD⟩
            have hk : k < (namesG g).length := by omega
            obtain ⟨n, hn⟩ : ∃ n, (namesG g)[k]? = some n := ⟨_, List.getElem?_eq_getElem hk⟩
            obtain ⟨x, hx⟩ : ∃ x, T[k]? = some x := ⟨_, List.getElem?_eq_getElem (by have := tops.l; omega)⟩
            have hb : (outB g b)[k]? = some (.int (b n)) := by
              unfold outB
              rw [List.getElem?_map, hn]
              rfl
            have le := tops_low gw p6 best tops hn hx
            rw [Int.zero_add]
            refine ⟨rfl, .ref qt, rfl, .int ((k : Nat) : Int), rfl, qt, _, ((k : Nat) : Int), .int x, rfl, rfl, .inl (.inl (sm _ _ et)), atI_nat (by rw [List.getElem?_map, hx]; rfl), .ref q1, rfl, .int ((k : Nat) : Int), rfl, q1, _, ((k : Nat) : Int), _, rfl, rfl, .inl (.inl (sm _ _ (sG4 _ _ e13))), atI_nat hb, x, b n, rfl, rfl, _, rfl, ?_⟩
            rw [decide_eq_false (show ¬ x > b n by omega)]
            exact iteF ⟨sm, eD⟩
          rintro G5 ⟨sm, eD⟩
          refine ⟨(show 0 ≤ sizeLine by decide), fun l0 n0 => ?_⟩
          have s6 := same_new (o := .lst []) n0
          refine ⟨.list [], .list [], .lst (.inl (.inl (s6 _ _ eD))) .nil, .lst (.inl (.inl upd_same)) .nil, rfl, rfl, _, rfl, iteF ?_⟩
          exact ⟨_, _, rfl, (sG4.trans sm).trans s6⟩
        · rintro σ G ⟨y8, y10, rfl, sG⟩
          exact k _ _ ⟨_, _, rfl, s13.trans sG⟩
    · rintro σ J _
      exact q _
end
end Kn


namespace Kn
open PySem PySem.Spec PyProof.Rows L2 LamX
/-! ### what the top has written -/
def At (K : PySem.W.Frag) (x : Str) (i : Nat) : Prop := ∃ (f : Addr) (oc : Value) (od an : Option Addr) (sl : Array (Option Value)) (kV dc pm cd ct : Value),
  PySem.W.nsIn K mainGlobals x = some (some (.ref f)) ∧ K.lookup f = some ⟨oc, od, .func (PySem.W.fnOf x x (defArgs (topS i)) (defBody (topS i)) (defScope (topS i)) .none kV dc pm an cd ct), sl⟩ ∧ PySem.W.codeIn K cd x = true ∧ PySem.W.keepIn K (.ref f) = true
theorem at_mk {K : PySem.W.Frag} {x : Str} {i : Nat} {f : Addr} {oc kV dc pm cd ct : Value} {od an : Option Addr} {sl : Array (Option Value)} (a : PySem.W.nsIn K mainGlobals x = some (some (.ref f)))
    (l : K.lookup f = some ⟨oc, od, .func (PySem.W.fnOf x x (defArgs (topS i)) (defBody (topS i)) (defScope (topS i)) .none kV dc pm an cd ct), sl⟩) (c : PySem.W.codeIn K cd x = true) (k : PySem.W.keepIn K (.ref f) = true) : At K x i :=
  ⟨f, oc, od, an, sl, kV, dc, pm, cd, ct, a, l, c, k⟩
/-- a def that makes lambdas: its code object and its table -/
structure AtC (K : PySem.W.Frag) (x : Str) (i : Nat) (c T0 : Addr) : Prop where
  ex : ∃ (f : Addr) (oc : Value) (od an : Option Addr) (sl : Array (Option Value)) (kV dc pm ct : Value),
    PySem.W.nsIn K mainGlobals x = some (some (.ref f)) ∧ K.lookup f = some ⟨oc, od, .func (PySem.W.fnOf x x (defArgs (topS i)) (defBody (topS i)) (defScope (topS i)) .none kV dc pm an (.ref c) ct), sl⟩ ∧ PySem.W.codeIn K (.ref c) x = true ∧ PySem.W.keepIn K (.ref f) = true
  tab : PySem.W.tabIn K x = some (c, T0)
theorem atC_mk {K : PySem.W.Frag} {x : Str} {i : Nat} {f c T0 : Addr} {oc kV dc pm ct oc2 : Value} {od an od2 : Option Addr} {sl sl2 : Array (Option Value)} {us : Array Value} (a : PySem.W.nsIn K mainGlobals x = some (some (.ref f)))
    (l : K.lookup f = some ⟨oc, od, .func (PySem.W.fnOf x x (defArgs (topS i)) (defBody (topS i)) (defScope (topS i)) .none kV dc pm an (.ref c) ct), sl⟩) (e : PySem.W.codeIn K (.ref c) x = true) (k : PySem.W.keepIn K (.ref f) = true)
    (l2 : K.lookup c = some ⟨oc2, od2, .fields us, sl2⟩) (v : us[11]? = some (.ref T0)) : AtC K x i c T0 := by
  refine ⟨⟨f, oc, od, an, sl, kV, dc, pm, ct, a, l, e, k⟩, ?_⟩
  unfold PySem.W.tabIn
  rw [a]
  dsimp only
  rw [l]
  dsimp only [PySem.W.fnOf]
  rw [l2]
  dsimp only
  rw [v]
/-- an error class, asked of from D -/
theorem asked_mk {K : PySem.W.Frag} {mg : Str → Option Value} {h : Heap} {x : Str} {C D : Addr} {b : Bool} (X : K.In h) (G : h.Ns mainGlobals mg) (a : PySem.W.nsIn K mainGlobals x = some (some (.ref C))) (c : PySem.W.isClsIn K C = true) (t : PySem.W.typeIn K (.ref C) = some (.type "type"))
    (s : PySem.W.subIn K (.ref D) (.ref C) = some b) (n : (Value.ref D == Value.ref C) = false ∨ b = true) : Asked K mg x D b := by
  refine ⟨C, PySem.W.mg_of X G a, ?_⟩
  unfold PySem.W.kitOne
  by_cases q : (Value.ref D == Value.ref C) = true
  · rw [if_pos q]
    rcases n with n | n
    · rw [n] at q
      cases q
    · rw [n]
  · rw [if_neg q]
    have c2 : (PySem.W.clsIn K C).isSome = true := c
    have e : ((PySem.W.clsIn K C).isSome && PySem.W.typeIn K (.ref C) == some (.type "type")) = true := by
      rw [c2, t]
      rfl
    show (if ((PySem.W.clsIn K C).isSome && PySem.W.typeIn K (.ref C) == some (.type "type")) = true then PySem.W.subIn K (.ref D) (.ref C) else none) = some b
    rw [if_pos e]
    exact s
theorem tab_out {K : PySem.W.Frag} {h : Heap} {T0 : Addr} (X : K.In h) (n : PySem.W.noTabs K = true) (t : h.get? T0 = some { cls := .none, data := .fields #[] }) : K.lookup T0 = none := by
  cases e : K.lookup T0 with
  | none => rfl
  | some o =>
    have y := X _ _ e
    rw [t] at y
    cases y
    have z := List.all_eq_true.mp n _ (PySem.W.mem_of_lookupK e)
    exact absurd (show false = true from z) Bool.false_ne_true
section
variable {K : PySem.W.Frag} {mg : Str → Option Value} {h : Heap} {x y : Str} {i : Nat} {ps : List Str}
theorem def_of (X : K.In h) (G : h.Ns mainGlobals mg) (t : At K x i)
    (b : ∀ (kV doc pm : Value) (an : Option Addr) (cdv ct : Value) (us : List Value), us.length = ps.length → bindArgs (PySem.W.fnOf x x (defArgs (topS i)) (defBody (topS i)) (defScope (topS i)) .none kV doc pm an cdv ct) ⟨us, []⟩ = pure (ps.zip us)) :
    ∃ f fd, Def K mg x i ps f fd := by
  obtain ⟨f, oc, od, an, sl, kV, dc, pm, cd, ct, a, l, c, k⟩ := t
  have F := fun_mk (st := topS i) l c k
  exact ⟨f, _, F, F.binds b, PySem.W.mg_of X G a⟩
theorem vals_rev : ∀ {zs : List V} {ws : List Value}, Vals zs ws → Vals zs.reverse ws.reverse
  | _, _, .nil => .nil
  | _, _, .cons a b => by
    rw [List.reverse_cons, List.reverse_cons]
    exact (vals_rev b).append (.cons a .nil)
end
section
variable {K : PySem.W.Frag} {mg mb : Str → Option Value} {h : Heap} {l : PySem.W.OpenLaw} {w : World} {fa c T0 D DU CL gI gU : Addr} {fdI fdU : FuncData} {d : DefRec} {q : Program} {loose : List Str} {mean : ExcName → Option Value}
theorem all_mk (X : K.In h) (G : h.Ns mainGlobals mg) (hfa : mg "law" = some (.ref fa))
    (EU : ErrU K mg DU gU fdU)
    (t5 : At K "is_integer" 5)
    (t6 : At K "is_number" 6)
    (t8 : At K "names_of" 8)
    (t9 : At K "form_of" 9)
    (t10 : At K "fee_of" 10)
    (t11 : At K "table_of" 11)
    (t12 : At K "can_send" 12)
    (t14 : At K "check_marks" 14)
    (t16 : At K "leavings" 16)
    (t17 : At K "least_plan" 17)
    (t19 : At K "best_marks" 19)
    (t20 : At K "near_of" 20)
    (t22 : At K "_law_feed" 22)
    (t23 : At K "_law_draw" 23)
    (t24 : At K "_law_row" 24)
    (t25 : At K "_law_sends" 25)
    (t26 : At K "_law_left" 26)
    (t27 : At K "_law_pairs" 27)
    (t28 : At K "_law_read" 28)
    (t29 : At K "_law_scenes" 29)
    (t30 : At K "_law_page" 30)
    (t31 : At K "_law_changed" 31)
    (t32 : At K "_law_asked" 32)
    (t33 : At K "_law_after" 33)
    (t34 : At K "_law_states" 34)
    (t35 : At K "_law_small" 35)
    (t36 : At K "_law_tops" 36)
    (t37 : At K "_law_wider" 37)
    (t38 : At K "law" 38)
    (z1 : PySem.W.nsIn K mainGlobals "len" = some none)
    (z2 : PySem.W.nsIn K mainGlobals "int" = some none)
    (z3 : PySem.W.nsIn K mainGlobals "range" = some none)
    (z4 : PySem.W.nsIn K mainGlobals "sorted" = some none)
    (z5 : PySem.W.nsIn K mainGlobals "tuple" = some none)
    (z6 : PySem.W.nsIn K mainGlobals "isinstance" = some none)
    (z7 : PySem.W.nsIn K mainGlobals "repr" = some none)
    (z8 : PySem.W.nsIn K mainGlobals "str" = some none)
    (z9 : PySem.W.nsIn K mainGlobals "list" = some none)
    (z10 : PySem.W.nsIn K mainGlobals "bool" = some none)
    (z11 : PySem.W.nsIn K mainGlobals "zip" = some none)
    (z12 : PySem.W.nsIn K mainGlobals "max" = some none)
    (z13 : PySem.W.nsIn K mainGlobals "min" = some none)
    (z14 : PySem.W.nsIn K mainGlobals "set" = some none)
    : ∃ fd : FuncData, (∀ (s : Shared) (v : Value), BindsTo s fd ⟨[v], []⟩ [("_law_script", v)]) ∧ ∀ base : Heap, K.In base → base.Ns mainGlobals mg → Vow l.prog w K mg base 10 fa fd ["_law_script"] (spLaw K) := by
  obtain ⟨f5, d5, D5⟩ := def_of (mg := mg) (ps := ["thing"]) X G t5 (fun _ _ _ _ _ _ us hl => match us, hl with | [_], _ => rfl)
  obtain ⟨f6, d6, D6⟩ := def_of (mg := mg) (ps := ["thing"]) X G t6 (fun _ _ _ _ _ _ us hl => match us, hl with | [_], _ => rfl)
  obtain ⟨f8, d8, D8⟩ := def_of (mg := mg) (ps := ["web"]) X G t8 (fun _ _ _ _ _ _ us hl => match us, hl with | [_], _ => rfl)
  obtain ⟨f9, d9, D9⟩ := def_of (mg := mg) (ps := ["web", "kind"]) X G t9 (fun _ _ _ _ _ _ us hl => match us, hl with | [_, _], _ => rfl)
  obtain ⟨f10, d10, D10⟩ := def_of (mg := mg) (ps := ["web", "kind"]) X G t10 (fun _ _ _ _ _ _ us hl => match us, hl with | [_, _], _ => rfl)
  obtain ⟨f11, d11, D11⟩ := def_of (mg := mg) (ps := ["web", "kind"]) X G t11 (fun _ _ _ _ _ _ us hl => match us, hl with | [_, _], _ => rfl)
  obtain ⟨f12, d12, D12⟩ := def_of (mg := mg) (ps := ["web", "kind", "mark"]) X G t12 (fun _ _ _ _ _ _ us hl => match us, hl with | [_, _, _], _ => rfl)
  obtain ⟨f14, d14, D14⟩ := def_of (mg := mg) (ps := ["marks"]) X G t14 (fun _ _ _ _ _ _ us hl => match us, hl with | [_], _ => rfl)
  obtain ⟨f16, d16, D16⟩ := def_of (mg := mg) (ps := ["web", "pairs"]) X G t16 (fun _ _ _ _ _ _ us hl => match us, hl with | [_, _], _ => rfl)
  obtain ⟨f17, d17, D17⟩ := def_of (mg := mg) (ps := ["web", "marks"]) X G t17 (fun _ _ _ _ _ _ us hl => match us, hl with | [_, _], _ => rfl)
  obtain ⟨f19, d19, D19⟩ := def_of (mg := mg) (ps := ["web", "marks"]) X G t19 (fun _ _ _ _ _ _ us hl => match us, hl with | [_, _], _ => rfl)
  obtain ⟨f20, d20, D20⟩ := def_of (mg := mg) (ps := ["web", "marks"]) X G t20 (fun _ _ _ _ _ _ us hl => match us, hl with | [_, _], _ => rfl)
  obtain ⟨f22, d22, D22⟩ := def_of (mg := mg) (ps := ["_law_script"]) X G t22 (fun _ _ _ _ _ _ us hl => match us, hl with | [_], _ => rfl)
  obtain ⟨f23, d23, D23⟩ := def_of (mg := mg) (ps := ["_law_feed_here", "_law_many"]) X G t23 (fun _ _ _ _ _ _ us hl => match us, hl with | [_, _], _ => rfl)
  obtain ⟨f24, d24, D24⟩ := def_of (mg := mg) (ps := ["_law_net", "_law_title"]) X G t24 (fun _ _ _ _ _ _ us hl => match us, hl with | [_, _], _ => rfl)
  obtain ⟨f25, d25, D25⟩ := def_of (mg := mg) (ps := ["_law_net", "_law_pair"]) X G t25 (fun _ _ _ _ _ _ us hl => match us, hl with | [_, _], _ => rfl)
  obtain ⟨f26, d26, D26⟩ := def_of (mg := mg) (ps := ["_law_net", "_law_pair"]) X G t26 (fun _ _ _ _ _ _ us hl => match us, hl with | [_, _], _ => rfl)
  obtain ⟨f27, d27, D27⟩ := def_of (mg := mg) (ps := ["_law_net", "_law_power"]) X G t27 (fun _ _ _ _ _ _ us hl => match us, hl with | [_, _], _ => rfl)
  obtain ⟨f28, d28, D28⟩ := def_of (mg := mg) (ps := ["_law_text_in", "_law_names"]) X G t28 (fun _ _ _ _ _ _ us hl => match us, hl with | [_, _], _ => rfl)
  obtain ⟨f29, d29, D29⟩ := def_of (mg := mg) (ps := []) X G t29 (fun _ _ _ _ _ _ us hl => match us, hl with | [], _ => rfl)
  obtain ⟨f30, d30, D30⟩ := def_of (mg := mg) (ps := ["_law_feed_here"]) X G t30 (fun _ _ _ _ _ _ us hl => match us, hl with | [_], _ => rfl)
  obtain ⟨f31, d31, D31⟩ := def_of (mg := mg) (ps := ["_law_feed_here", "_law_text_in"]) X G t31 (fun _ _ _ _ _ _ us hl => match us, hl with | [_, _], _ => rfl)
  obtain ⟨f32, d32, D32⟩ := def_of (mg := mg) (ps := ["_law_feed_here", "_law_bound"]) X G t32 (fun _ _ _ _ _ _ us hl => match us, hl with | [_, _], _ => rfl)
  obtain ⟨f33, d33, D33⟩ := def_of (mg := mg) (ps := ["_law_net", "_law_power", "_law_state"]) X G t33 (fun _ _ _ _ _ _ us hl => match us, hl with | [_, _, _], _ => rfl)
  obtain ⟨f34, d34, D34⟩ := def_of (mg := mg) (ps := ["_law_net", "_law_sizes", "_law_power"]) X G t34 (fun _ _ _ _ _ _ us hl => match us, hl with | [_, _, _], _ => rfl)
  obtain ⟨f35, d35, D35⟩ := def_of (mg := mg) (ps := ["_law_sizes"]) X G t35 (fun _ _ _ _ _ _ us hl => match us, hl with | [_], _ => rfl)
  obtain ⟨f36, d36, D36⟩ := def_of (mg := mg) (ps := ["_law_net", "_law_sizes", "_law_power"]) X G t36 (fun _ _ _ _ _ _ us hl => match us, hl with | [_, _, _], _ => rfl)
  obtain ⟨f37, d37, D37⟩ := def_of (mg := mg) (ps := ["_law_feed_here", "_law_net"]) X G t37 (fun _ _ _ _ _ _ us hl => match us, hl with | [_, _], _ => rfl)
  have ml := PySem.W.mg_none_of X G z1
  have mi := PySem.W.mg_none_of X G z2
  have mr := PySem.W.mg_none_of X G z3
  have mo := PySem.W.mg_none_of X G z4
  have mt := PySem.W.mg_none_of X G z5
  have ms := PySem.W.mg_none_of X G z6
  have mp := PySem.W.mg_none_of X G z7
  have mz := PySem.W.mg_none_of X G z8
  have mli := PySem.W.mg_none_of X G z9
  have mb := PySem.W.mg_none_of X G z10
  have mzi := PySem.W.mg_none_of X G z11
  have mma := PySem.W.mg_none_of X G z12
  have mmi := PySem.W.mg_none_of X G z13
  have mse := PySem.W.mg_none_of X G z14
  obtain ⟨fL, oc, od, an, sl, kV, dc, pm, cd, ct, aL, lL, cL, kL⟩ := t38
  cases hfa.symm.trans (PySem.W.mg_of X G aL)
  have FL := fun_mk (st := topS 38) lL cL kL
  refine ⟨PySem.W.fnOf "law" "law" (defArgs (topS 38)) (defBody (topS 38)) (defScope (topS 38)) .none kV dc pm an cd ct, fun s v => .of_eq rfl, fun base _ _ => ?_⟩
  have O5 : FnOk l.prog w K mg base CX0 1 f5 d5 ["thing"] (spB K intB) := ok_integer D5.F ms mi mb
  have O6 : FnOk l.prog w K mg base CX0 2 f6 d6 ["thing"] (spB K natB) := ok_number D6.F D5 O5
  have O8 : FnOk l.prog w K mg base CX0 1 f8 d8 ["web"] (spNo K) := ok_no D8.F mt
  have O9 : FnOk l.prog w K mg base CX0 1 f9 d9 ["web", "kind"] (spFo K) := ok_fo D9.F
  have O10 : FnOk l.prog w K mg base CX0 2 f10 d10 ["web", "kind"] (spFe K) := ok_fe D10.F D9 O9
  have O11 : FnOk l.prog w K mg base CX0 2 f11 d11 ["web", "kind"] (spTa K) := ok_ta D11.F D9 O9
  have O12 : FnOk l.prog w K mg base CX0 2 f12 d12 ["web", "kind", "mark"] (spCs K) := ok_cs D12.F D9 O9
  have O14 : FnOk l.prog w K mg base (L2.CX l.prog w) 3 f14 d14 ["marks"] (spCmR K DU) := ok_cmR D14.F EU D6 O6
  have O16 : FnOk l.prog w K mg base CX0 3 f16 d16 ["web", "pairs"] (spLvL K) := ok_lvL D16.F D10 O10 D11 O11
  have O17 : FnOk l.prog w K mg base CX0 3 f17 d17 ["web", "marks"] (spLe K) := ok_le D17.F D12 O12
  have O19 : FnOk l.prog w K mg base (L2.CX l.prog w) 4 f19 d19 ["web", "marks"] (spBm K DU outB) := ok_bm D19.F D14 O14 D8 O8 D17 O17 D16 O16 D12 O12 mli ml mt
  have O20 : FnOk l.prog w K mg base (L2.CX l.prog w) 5 f20 d20 ["web", "marks"] (spBm K DU outR) := ok_no2 D20.F D19 O19 D8 O8 mzi mt
  have O22 : FnOk l.prog w K mg base CX0 1 f22 d22 ["_law_script"] (spStart K) := ok_start D22.F mli
  have O23 : FnOk l.prog w K mg base CX0 1 f23 d23 ["_law_feed_here", "_law_many"] spDraw := ok_draw D23.F mi ml
  have O24 : FnOk l.prog w K mg base CX0 1 f24 d24 ["_law_net", "_law_title"] (spLk K) := ok_lk D24.F
  have O25 : FnOk l.prog w K mg base CX0 2 f25 d25 ["_law_net", "_law_pair"] (spLc K) := ok_lc D25.F D24 O24
  have O26 : FnOk l.prog w K mg base CX0 2 f26 d26 ["_law_net", "_law_pair"] (spLl K) := ok_ll D26.F D24 O24
  have O27 : FnOk l.prog w K mg base CX0 3 f27 d27 ["_law_net", "_law_power"] (spLq K) := ok_lq D27.F D24 O24 D26 O26 D25 O25 ml
  have O28 : FnOk l.prog w K mg base CX0 1 f28 d28 ["_law_text_in", "_law_names"] (spRd K) := ok_rd D28.F ml mr mi mt mo
  have O29 : FnOk l.prog w K mg base CX0 1 f29 d29 [] spSc := ok_sc D29.F
  have O30 : FnOk l.prog w K mg base CX0 2 f30 d30 ["_law_feed_here"] spPa := ok_pa D30.F D23 O23 mz
  have O31 : FnOk l.prog w K mg base CX0 2 f31 d31 ["_law_feed_here", "_law_text_in"] spCh := ok_ch D31.F D23 O23 ml mz
  have O32 : FnOk l.prog w K mg base CX0 4 f32 d32 ["_law_feed_here", "_law_bound"] (spAk K) := ok_ak D32.F D23 O23 D29 O29 D30 O30 D31 O31 D28 O28 D27 O27 ml
  have O33 : FnOk l.prog w K mg base CX0 3 f33 d33 ["_law_net", "_law_power", "_law_state"] (spAf K) := ok_af D33.F D24 O24 D26 O26 D25 O25 mt mr ml mo
  have O34 : FnOk l.prog w K mg base CX0 4 f34 d34 ["_law_net", "_law_sizes", "_law_power"] (spSs l.prog w K) := ok_ss D34.F D33 O33 mt mr ml mi
  have O36 : FnOk l.prog w K mg base CX0 5 f36 d36 ["_law_net", "_law_sizes", "_law_power"] (spTp K) := ok_tp D36.F D24 O24 D26 O26 D25 O25 D34 O34 mt mr ml mma
  have O35 : FnOk l.prog w K mg base CX0 1 f35 d35 ["_law_sizes"] (spSm K) := ok_sm D35.F mt ml mmi
  have O37 : FnOk l.prog w K mg base CX0 2 f37 d37 ["_law_feed_here", "_law_net"] (spWi K) := ok_wi D37.F D23 O23 mt ml mo mse
  exact ok_law FL D22 O22 D32 O32 D36 O36 D35 O35 D37 O37 D27 O27 D19 O19 D20 O20 mp mr mt ml
end
end Kn


namespace Kn
open PySem PySem.Spec PyProof.Rows L2 LamX
section
variable {K : PySem.W.Frag} {mg : Str → Option Value} {h : Heap}
theorem cls_mk {D N : Addr} {nm q : Str} {bs bm sub : List Value} {sn : List Str} {ab : Bool} {col : Option Bool} {dd : Option Addr} {k0 k1 k2 k3 k5 : Option Value} (l : K.lookup D = some (excClassObj nm q D N bs bm true sn sub ab col dd k0 k1 k2 k3 k5 "ValueError.__new__")) (r : PySem.HandSPX.refsVE bm = true) :
    ∃ nm q N bs bm sn sub ab col dd k0 k1 k2 k3 k5, K.lookup D = some (excClassObj nm q D N bs bm true sn sub ab col dd k0 k1 k2 k3 k5 "ValueError.__new__") ∧ PySem.HandSPX.refsVE bm = true := ⟨_, _, _, _, _, _, _, _, _, _, _, _, _, _, _, l, r⟩
theorem err_mkU {D fI : Addr} {oc kV doc pm cdv ct : Value} {od an : Option Addr} {osl : Array (Option Value)} (X : K.In h) (G : h.Ns mainGlobals mg) (aD : PySem.W.nsIn K mainGlobals "NotUsable" = some (some (.ref D)))
    (cl : ∃ nm q N bs bm sn sub ab col dd k0 k1 k2 k3 k5, K.lookup D = some (excClassObj nm q D N bs bm true sn sub ab col dd k0 k1 k2 k3 k5 "ValueError.__new__") ∧ PySem.HandSPX.refsVE bm = true)
    (sa : PySem.W.findIn K (.ref D) "__setattr__" = some (some (.builtin "object.__setattr__"))) (ga : PySem.W.findIn K (.ref D) "__getattribute__" = some (some (.builtin "BaseException.__getattribute__"))) (gg : PySem.W.findIn K (.ref D) "__getattr__" = some none)
    (ha : PySem.W.findIn K (.ref D) "__class__" = some (some (.builtin "object.__class__"))) (hn : PySem.W.specialIn K (.builtin "object.__class__") "__get__" = some (some (.builtin "getset_descriptor.__get__"))) (ht : PySem.W.takesIn K (.builtin "object.__class__") = some true) (hm : PySem.W.mroIn K D (.type "object") = some true)
    (noW : PySem.W.findIn K (.ref D) "word" = some none) (noA : PySem.W.findIn K (.ref D) "at" = some none) (i : PySem.W.findIn K (.ref D) "__init__" = some (some (.ref fI))) (tI : PySem.W.typeIn K (.ref fI) = some (.type "function"))
    (lI : K.lookup fI = some ⟨oc, od, .func (PySem.W.fnOf "__init__" "NotUsable.__init__" (defArgs initU) (defBody initU) (defScope initU) .none kV doc pm an cdv ct), osl⟩) (cI : PySem.W.codeIn K cdv "NotUsable.__init__" = true) (kI : PySem.W.keepIn K (.ref fI) = true)
    (kC : PySem.W.keepIn K (.ref D) = true) (exC : PySem.W.subIn K (.ref D) (.type "BaseException") = some true) (tyC : PySem.W.typeIn K (.ref D) = some (.type "type")) (hdC : PySem.W.hasDictIn K D = true) (isC : PySem.W.isClsIn K D = true) (sV : PySem.W.subIn K (.ref D) (.type "ValueError") = some true) (sD : PySem.W.subIn K (.ref D) (.ref D) = some true) :
    ErrU K mg D fI (PySem.W.fnOf "__init__" "NotUsable.__init__" (defArgs initU) (defBody initU) (defScope initU) .none kV doc pm an cdv ct) := by
  have FI : Fun K "__init__" "NotUsable.__init__" initU fI (PySem.W.fnOf "__init__" "NotUsable.__init__" (defArgs initU) (defBody initU) (defScope initU) .none kV doc pm an cdv ct) := fun_mk (st := initU) lI cI kI
  exact ⟨noW, noA, ⟨cl, sa, exC, tyC, kC⟩, FI, FI.binds (fun _ _ _ _ _ _ us hl => match us, hl with | [_, _, _], _ => rfl), i, tI, PySem.W.mg_of X G aD⟩
end
end Kn
open PySem PySem.W PyProof.Rows
set_option maxHeartbeats 0 in
theorem PySem.Challenge.cw_firstletter_k49_whole_best_marks_in_runs_holds : PySem.Challenge.rw_firstletter_k49_whole_best_marks_in_runs.Holds := by
  w_on; o_law; k_head; (case hw => w_witness2)
  k_fill
  refine Kn.walk_vow (l := PySem.Challenge.rw_firstletter_k49_whole_best_marks_in_runs) (k := 10) (x := "_law_script") (sp := Kn.spLaw) rfl rfl ⟨rfl, by decide, by decide⟩ (fun w h Y => PySem.W.kIn_of Y) ?F (fun _ _ a ns hl _ hS => ⟨a, ns, rfl, hS, hl, fun _ => rfl⟩)
  case F =>
    intro w mg fa h KX G hmg
    refine' Kn.all_mk KX G hmg ?EU ?t5 ?t6 ?t8 ?t9 ?t10 ?t11 ?t12 ?t14 ?t16 ?t17 ?t19 ?t20 ?t22 ?t23 ?t24 ?t25 ?t26 ?t27 ?t28 ?t29 ?t30 ?t31 ?t32 ?t33 ?t34 ?t35 ?t36 ?t37 ?t38 ?z1 ?z2 ?z3 ?z4 ?z5 ?z6 ?z7 ?z8 ?z9 ?z10 ?z11 ?z12 ?z13 ?z14
    (case z1 => k_is); (case z2 => k_is); (case z3 => k_is); (case z4 => k_is); (case z5 => k_is); (case z6 => k_is); (case z7 => k_is); (case z8 => k_is); (case z9 => k_is); (case z10 => k_is); (case z11 => k_is); (case z12 => k_is); (case z13 => k_is); (case z14 => k_is)
    case EU =>
      refine' Kn.err_mkU KX G ?xaD ?xcl ?xsa ?xga ?xgg ?xha ?xhn ?xht ?xhm ?xnoW ?xnoA ?xi ?xtI ?xlI ?xcI ?xkI ?xkC ?xexC ?xtyC ?xhdC ?xisC ?xsV ?xsD
      (case xaD => k_is)
      (case xcl => (refine' Kn.cls_mk ?xx ?xy; (case xx => k_is); (case xy => decide +kernel)))
      (case xsa => k_is); (case xga => k_is); (case xgg => k_is); (case xha => k_is); (case xhn => k_is); (case xht => k_is); (case xhm => k_is); (case xnoW => k_is); (case xnoA => k_is); (case xi => k_is); (case xtI => k_is); (case xlI => k_is); (case xcI => k_is); (case xkI => k_is)
      (case xkC => k_is); (case xexC => k_is); (case xtyC => k_is); (case xhdC => k_is); (case xisC => k_is); (case xsV => k_is); (case xsD => k_is)
    all_goals
      refine' Kn.at_mk ?a ?l ?c ?k
      (case a => k_is); (case l => k_is); (case c => k_is); (case k => k_is)
