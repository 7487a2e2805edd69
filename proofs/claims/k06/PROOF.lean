import PyProof.Rows.All
import Wide.All
import OpenK.AllK
import Wide.FinOn
import HandS.ForMost
import HandS.Star
import HandS.FStr
import HandS.RaiseMore
import PyProof.ReprRoads
import PyProof.StrLawsRepr
import HandS.TupAny
import HandS.HotCalls
import HandS.ExcIs
import HandS.ExcField
import HandS.ExcInit
import HandS.Lambda
import HandS.WordsExc
import KE.KExcIs
import PyProof.Rows.CountFlat
import HandS.SetFor
import HandS.EndTab
import KE.KNest
import HandS.IsInst
import HandS.Deep
import HandS.Strs
import HandS.More
import PyProof.ReprLen
import PySem.Challenge.RW_firstletter_k06_whole_arrows_changed
set_option Elab.async false
set_option linter.all false
set_option maxRecDepth 100000
set_option maxHeartbeats 8000000
/-! Kn: defs that show data by repr. A promise that holds where nothing is being shown yet (Vow), its body, its call, the law's end. -/
namespace Kn
open PySem PySem.Spec PyProof.Rows L2

section
variable (P : Program) (w : World) (K : PySem.W.Frag) (mg : Str → Option Value) (base : Heap)
structure Vow (k : Nat) (f : Addr) (fd : FuncData) (ps : List Str) (sp : Sp) : Prop where
  many : ∀ vs H Q E, sp vs H Q E → vs.length = ps.length
  goes : ∀ (A : Around) (fr : List Env) (s : Shared) (H : Hp) (g : Args) (us : List Value) (vs : List V) (Q : VK) (E : XK), A.guards = some [] → Room k A →
    Env0 P w K mg base A fr s H → BindsTo s fd g (ps.zip us) → Vals vs us → sp vs H Q E → codeAny (model P w) A (.call (.ref f) g) (CR CX0 fr P w H s Q E) s
end
section
variable {P : Program} {w : World} {K : PySem.W.Frag} {mg : Str → Option Value} {base : Heap} {k : Nat} {f : Addr} {fd : FuncData} {ps N : List Str} {sp : Sp} {x qual : Str} {st : Stmt}

theorem Vow.body (F : Fun K x qual st f fd) (S : FnScope N ps (defScope st)) (many : ∀ vs H Q E, sp vs H Q E → vs.length = ps.length)
    (hb : ∀ (cdv : Value) (A : Around) (fr : List Env) (s : Shared) (H : Hp) (vs : List V) (Q : VK) (E : XK), A.guards = some [] → Room k (A.deeper (envOfC qual (defScope st) s.heap.objs.size f cdv)) → sp vs H Q E →
      ∃ t, PSs (cxOf CX0 P w K mg base N qual (defScope st) f cdv A fr s H E).nox (defBody st) t ∧ t { nx := fun _ H' => Q .non H', rt := Q } (start N vs) H) :
    Vow P w K mg base (k + 1) f fd ps sp := by
  obtain ⟨oc, od, kV, doc, pm, an, cdv, ct, osl, rfl, look, cdOk⟩ := F.ex
  refine ⟨many, fun A fr s H g us vs Q E hg room z bound rv told => ?_⟩
  have held : ∀ b o, base.get? b = some o → s.heap.get? b = some o := fun b o y => (z.bs b o y).1
  have KS : K.In s.heap := z.mod.kin.keeps held
  have parL : ∀ y ∈ ps.zip us, (defScope st).names.lookup y.1 = some .local ∨ ((defScope st).names.lookup y.1 = some .cell ∧ ((cellsFrom (s.heap.objs.size + 1) (defScope st).names []).lookup y.1).isSome = true) := by
    rintro ⟨n, v⟩ hy
    cases S.par n (List.of_mem_zip hy).1 with
    | inl q => exact .inl q
    | inr q => exact .inr ⟨q, PySem.W.cellsFrom_some _ _ _ (.inl q)⟩
  refine codeAny_call_function room.depth (KS _ _ look) rfl S.co S.gen rfl (PySem.W.codeRec_of KS cdOk) (bound _ _ _ _ ?_)
  refine wpAny_newFunctionEnv_cells S.kind parL ?_
  rintro env rfl s1 y
  refine ⟨(z.mod.nolimit.keeps held).keeps y.toInCall.keep, codeAny_func ?_⟩
  obtain ⟨t, ht, ends⟩ := hb cdv A fr s H vs Q E hg (room.deeper _) told
  have I := inv_start (CX := CX0) (P := P) (mg := mg) (E := E) S room.hd z (many _ _ _ _ told) rv y
  refine wpAny_mono (ht.nox.run [] s1 (start N vs) H _ I ends) ?_ (fun _ _ q => q)
  intro fl s2 hs
  cases fl with
  | ret u => obtain ⟨v, σ2, H2, J, r2, q⟩ := hs; exact ⟨v, H2, J.os, J.bare, J.base, J.hok, r2, q⟩
  | next => obtain ⟨σ2, H2, J, q⟩ := hs; exact ⟨V.non, H2, J.os, J.bare, J.base, J.hok, rfl, q⟩
  | brk => obtain ⟨_, _, _, q⟩ := hs; exact q.elim
  | cont => obtain ⟨_, _, _, q⟩ := hs; exact q.elim

theorem Vow.of (F : FnOk P w K mg base CX0 k f fd ps sp) : Vow P w K mg base k f fd ps sp :=
  ⟨F.len, fun A fr s H g us vs Q E _ room z bound rv told => F.run A fr s H g us vs Q E room z bound rv told⟩
end

section
variable {X : Cx} {k : Nat} {f : Addr} {fd : FuncData} {ps : List Str} {sp : Sp} {x : Str} {p pos : Pos} {e : Expr} {es : List Expr} {t : TA}
/-- f(e, ..) of a def that vows -/
theorem pe_vow (F : Vow X.prog X.w X.K X.mg X.base k f fd ps sp) (hq : X.A.guards = some []) (hr : Room k X.A) (hg : Gl X x) (hm : X.mg x = some (.ref f)) (hk : PySem.W.keepIn X.K (.ref f) = true) (hb : Binds X.K fd ps [])
    (ha : PA X (e :: es) t) (hdb : (x == ("__debug__" : Str)) = false := by decide) (he : starEach (e :: es) X.env = (false, eval e X.env) :: starEach es X.env := by rfl) (hpl : (backTo pos (starEach es X.env)).any (·.1) = false := by rfl) :
    PE X (.Call (.Name x p) (e :: es) [] pos) (tCall sp [] E0 t) := by
  refine ⟨fun pins s σ H Q I told => wpAny_Call_Name_kw (ld_glob I hg hm ?_ hdb)⟩
  refine PySem.W.callWith_K (h₀ := X.base) I.ok.mod.kin hk (thn (ha.run pos pins s σ H _ I told) ?_) he hpl
  rintro us s1 ⟨vs, H1, I1, rv, q⟩
  refine ⟨I1.kIn, ?_⟩
  have q : sp (vs ++ []) H1 Q E0 := q
  rw [List.append_nil] at q
  have hl : (us ++ []).length = ps.length := by rw [List.append_nil, ← rv.length]; exact F.many _ _ _ _ q
  have hb1 := hb s1 us I1.kIn hl
  rw [List.append_nil] at hb1
  refine wpAny_call (codeAny_mono (F.goes X.A X.stack s1 H1 ⟨us, []⟩ us vs Q E0 hq hr I1.env0 hb1 rv q) ?_)
  intro r s2 out
  cases r with
  | error _ => exact False.elim out
  | ok fl =>
    cases fl with
    | ret u => exact I1.after out
    | next => exact False.elim out
    | brk => exact False.elim out
    | cont => exact False.elim out

/-- repr(x) of data -/
def rShow (K : PySem.W.Frag) : List V → Hp → VK → Prop := fun xs H Q => ∃ (a : Addr) (d : PyData), xs = [.ref a] ∧ Dp K H (.ref a) d ∧ d.showable = true ∧ d.hasDict = false ∧ d.depth ≤ 20 ∧ d.shown.length ≤ sizeLine ∧ Q (.str d.shown) H
theorem call_show (hq : X.A.guards = some []) (hu : X.A.units + 64 < cLine) : CallR X (.builtin "repr") (rShow X.K) := by
  rintro pins s σ H xs us Q I rv ⟨a, d, rfl, hd, h1, h2, h3, h4, q⟩
  obtain ⟨u, rfl, rfl⟩ := vals1 rv
  obtain ⟨as, rd⟩ := Dp.reads I d _ _ hd rfl
  exact repr_of_reads' rd h1 (PyData.noDict_hsm h2) hq (by omega) (fun _ _ y => y) (fun h' u tk kp => ⟨.str d.shown, H, I.kept kp, ⟨_, rfl⟩, q⟩) h4
end

/-! the law's end -/
section
variable {P : Program} {w : World} {K : PySem.W.Frag} {mg mb : Str → Option Value} {k : Nat} {fa a : Addr} {fd : FuncData} {x : Str} {sp : Sp} {s : Shared} {vs : List Value} {ns : List Int}
theorem end_vow (kin : K.In s.heap) (nsm : s.heap.Ns mainGlobals mg) (nsb : s.heap.Ns builtinsNs mb) (boot : ∀ y : Str, y ≠ "__name__" → mb y = bootBuiltins y) (lim : s.heap.NoLimit) (gens : s.gens = #[])
    (at_ : s.heap.get? a = some { cls := .type "list", data := .seq vs.toArray }) (iv : IntsAre vs ns) (short : ns.length ≤ sizeLine) (room : Room k callerA)
    (F : ∀ base : Heap, K.In base → base.Ns mainGlobals mg → Vow P w K mg base k fa fd [x] sp) (bound : ∀ (z : Shared) (u : Value), BindsTo z fd ⟨[u], []⟩ [(x, u)])
    (told : ∀ H : Hp, Only H → SqL K H a (ns.map V.int) → sp [.ref a] H (fun v _ => v = .bl true) E0) :
    codeAny (model P w) callerA (.call (.ref fa) ⟨[.ref a], []⟩) (fun r s' => r = .ok (.ret (.bool true)) ∧ OldK s.heap s'.heap ∧ s'.os = s.os ∧ AllBare s'.gens) s := by
  have many : ns.length = vs.length := by rw [iv.length]
  have main : ∀ H : Hp, Only H → SqL K H a (ns.map V.int) → HOk P w H s.heap → (∀ b u, H b = some u → b = a ∧ K.lookup a = none) →
      codeAny (model P w) callerA (.call (.ref fa) ⟨[.ref a], []⟩) (fun r s' => r = .ok (.ret (.bool true)) ∧ OldK s.heap s'.heap ∧ s'.os = s.os ∧ AllBare s'.gens) s := by
    intro H only lst ok alone
    have free : ∀ b o, s.heap.get? b = some o → o ≠ { cls := .type "list", data := .seq vs.toArray } → H b = none := by
      intro b o y ne
      cases q : H b with
      | none => rfl
      | some u =>
        obtain ⟨rfl, _⟩ := alone b u q
        rw [at_] at y
        exact absurd (Option.some.inj y).symm ne
    have nsk : ∀ {b : Addr} {m : Str → Option Value}, s.heap.Ns b m → (hidT s.heap H).Ns b m := by
      rintro b m ⟨o, es, ep, y, dd, r⟩
      refine ⟨o, es, ep, hidT_get y (free b o y ?_), dd, r⟩
      rintro rfl
      have dd2 : Data.seq vs.toArray _ = Data.dict es ep := dd
      cases dd2
    have kinB : K.In (hidT s.heap H) := by
      intro b o y
      refine hidT_get (kin b o y) ?_
      cases q : H b with
      | none => rfl
      | some u =>
        obtain ⟨rfl, no⟩ := alone b u q
        rw [no] at y
        cases y
    obtain ⟨mc, c1, c2⟩ := lim
    have md : Mod K mg (hidT s.heap H) := ⟨kinB, nsk nsm, ⟨mb, nsk nsb, boot⟩, mc, nsk c1, c2⟩
    have noL : ∀ {b : Addr}, b ∉ ([] : List Addr) := fun h => by cases h
    have z : Env0 P w K mg (hidT s.heap H) callerA [] s H := ⟨rfl, md, fun b o y => of_hidT y, Nat.le_of_eq (hidT_size _ _), trivial, fun b h => absurd h noL, ok, .of_eq gens⟩
    have run := (F _ kinB (nsk nsm)).goes callerA [] s H ⟨[.ref a], []⟩ [.ref a] [.ref a] _ _ rfl room z (bound s (.ref a)) (.cons rfl .nil) (told H only lst)
    refine codeAny_mono run ?_
    intro r s2 out
    cases r with
    | error _ => exact False.elim out
    | ok fl =>
      cases fl with
      | next => exact False.elim out
      | brk => exact False.elim out
      | cont => exact False.elim out
      | ret u =>
        obtain ⟨v, H2, os, bare, un, ok2, r2, rfl⟩ := out
        obtain rfl : u = Value.bool true := r2
        refine ⟨rfl, OldK.of_keep (fun b o y => ?_), os, bare⟩
        cases q : H b with
        | none => exact un.keep b o y q noL noL
        | some u =>
          rcases only b with n | ⟨ob, xs, n⟩
          · rw [q] at n
            cases n
          · obtain ⟨y1, _⟩ := ok b _ n
            obtain ⟨y2, _⟩ := ok2 b _ (un.frzs b ob _ n)
            rw [y] at y1
            cases y1
            exact y2
  have rv : Vals (ns.map V.int) vs := vals_ints iv
  cases hk : K.lookup a with
  | some o =>
    have y := kin a o hk
    rw [at_] at y
    cases y
    refine main (fun _ => none) (fun _ => .inl rfl) (.inr ⟨_, vs.toArray, _, hk, rfl, rfl, rfl, by rw [List.size_toArray, ← many]; exact short, by simpa using rv⟩) (fun b u q => ?_) (fun b u q => ?_)
    · have q : (none : Option HO) = some u := q
      cases q
    · have q : (none : Option HO) = some u := q
      cases q
  | none =>
    refine main (fun b => if b = a then some (.frz { cls := .type "list", data := .seq vs.toArray } (.lst (ns.map V.int))) else none) (fun b => ?_) (.inl (.inr ⟨{ cls := .type "list", data := .seq vs.toArray }, if_pos rfl⟩)) (fun b u q => ?_) (fun b u q => ?_)
    · by_cases hb : b = a
      · exact .inr ⟨_, _, if_pos hb⟩
      · exact .inl (if_neg hb)
    · by_cases hb : b = a
      · subst hb
        cases (if_pos rfl).symm.trans q
        exact ⟨at_, by rw [List.length_map]; exact short, vs, _, rv, at_⟩
      · cases (if_neg hb).symm.trans q
    · by_cases hb : b = a
      · exact ⟨hb, hk⟩
      · cases (if_neg hb).symm.trans q

theorem walk_vow {l : PySem.W.OpenLaw} {q : Program} {loose : List Str} {XP : (Str → Option Value) → Heap → Prop} {YP : World → Heap → Prop} {d : DefRec} {K : Params → PySem.W.Frag} {sp : PySem.W.Frag → Sp}
    (most : l.most = some 63) (dflt : d.params.defaults = []) (room : Room k callerA) (hY : ∀ (w : World) (h : Heap), YP w h → (K w.params).In h)
    (F : ∀ (w : World) (mg : Str → Option Value) (fa : Addr) (h : Heap), (K w.params).In h → h.Ns mainGlobals mg → mg d.name = some (.ref fa) →
      ∃ fd : FuncData, (∀ (z : Shared) (u : Value), BindsTo z fd ⟨[u], []⟩ [(x, u)]) ∧ ∀ base : Heap, (K w.params).In base → base.Ns mainGlobals mg → Vow l.prog w (K w.params) mg base k fa fd [x] (sp (K w.params)))
    (told : ∀ (K : PySem.W.Frag) (H : Hp) (a : Addr) (ns : List Int), ns.length ≤ 63 → Only H → SqL K H a (ns.map V.int) → sp K [.ref a] H (fun v _ => v = .bl true) E0) :
    PySem.W.WalkO q loose XP YP l.row.toRowW d [] (fun f vs => PySem.call f vs) := by
  refine Att.attach_call most dflt ?_
  intro w s0 s1 mg mb fa o pm cd doc a vs ns G Y ho hd hcd hmg hobj iv short gens
  have kin := hY w _ Y
  obtain ⟨fd, hb, hF⟩ := F w mg fa _ kin G.T.g hmg
  exact end_vow kin G.T.g G.T.b G.T.builtins G.T.nolimit gens hobj iv (Nat.le_trans short (by decide)) room hF hb (fun H only lst => told _ H a ns short only lst)
end
end Kn


/-! Kn: texts: lengths and signs; the pure defs of the program and of the law. -/
namespace Kn
open PySem PySem.Spec PyProof.Rows L2

/-! ### texts -/
def Fit (n : Nat) (x : Str) : Prop := x.length ≤ n ∧ ∀ c ∈ x.cps.toList, c < 16 ^ 8
theorem Fit.mono {n m : Nat} {x : Str} (h : Fit n x) (l : n ≤ m) : Fit m x := ⟨Nat.le_trans h.1 l, h.2⟩
theorem len_app (a b : Str) : (a ++ b).length = a.length + b.length := by
  show (a.cps ++ b.cps).size = _
  rw [Array.size_append]
  rfl
theorem Fit.app {n m : Nat} {a b : Str} (h : Fit n a) (k : Fit m b) : Fit (n + m) (a ++ b) := by
  refine ⟨by rw [len_app]; have := h.1; have := k.1; omega, fun c hc => ?_⟩
  have hc : c ∈ (a.cps ++ b.cps).toList := hc
  rw [Array.toList_append, List.mem_append] at hc
  exact hc.elim (h.2 c) (k.2 c)
theorem app_assoc (a b c : Str) : a ++ b ++ c = a ++ (b ++ c) := by
  show Str.mk (a.cps ++ b.cps ++ c.cps) = Str.mk (a.cps ++ (b.cps ++ c.cps))
  rw [Array.append_assoc]
theorem nil_app (a : Str) : Str.empty ++ a = a := by
  show Str.mk (#[] ++ a.cps) = a
  rw [Array.empty_append]
theorem Fit.join {n m : Nat} {y : Str} (hy : Fit m y) : ∀ (xs : List Str), (∀ x ∈ xs, Fit n x) → Fit (xs.length * (n + m)) (Str.join y xs)
  | [], _ => ⟨Nat.zero_le _, fun c hc => by cases hc⟩
  | [x], h => (h x (List.mem_cons_self ..)).mono (by rw [List.length_singleton]; omega)
  | x :: z :: r, h => by
    have ih := Fit.join hy (z :: r) fun v hv => h v (List.mem_cons_of_mem _ hv)
    have q := ((h x (List.mem_cons_self ..)).app hy).app ih
    refine q.mono ?_
    simp only [List.length_cons, Nat.add_mul, Nat.one_mul]
    omega
theorem fit_string (s : String) : ∀ c ∈ (Str.ofString s).cps.toList, c < 16 ^ 8 := by
  intro c hc
  rw [Str.ofString_eq_toList] at hc
  have hc : c ∈ s.toList.map Char.toNat := by simpa using hc
  obtain ⟨d, _, rfl⟩ := List.mem_map.mp hc
  have h : d.toNat < 1114112 := by
    have v := d.valid
    have e : d.toNat = d.val.toNat := rfl
    rcases v with v | ⟨_, v⟩
    · rw [e]; have v : d.val.toNat < 55296 := v; omega
    · rw [e]; exact v
  exact Nat.lt_trans h (by decide)
theorem len_string (s : String) : (Str.ofString s).length = s.toList.length := by
  rw [Str.ofString_eq_toList]
  show ((s.toList.map Char.toNat).toArray).size = _
  rw [List.size_toArray, List.length_map]

/-! ### comprehensions that change nothing -/
theorem tupS {K : PySem.W.Frag} {H H' : Hp} {a : Addr} {xs : List V} (e : Same H H') (h : SqT K H a xs) : SqT K H' a xs := by
  rcases h with (h | ⟨o, h⟩) | h
  · exact .inl (.inl (e _ _ h))
  · exact .inl (.inr ⟨o, e _ _ h⟩)
  · exact .inr h
theorem same_new {H : Hp} {p : Addr} {o : HO} (h : H p = none) : Same H (upd H p o) := fun b x e => by
  rw [upd_ne (ne_of_none e h)]
  exact e
theorem putS {H H' : Hp} {p : Addr} {o : HO} (e : Same H H') (h : H p = none) : Same H (upd H' p o) := fun b x q => by
  rw [upd_ne (ne_of_none q h)]
  exact e _ _ q
theorem small' {n : Nat} (h : n ≤ 1000) : n < sizeLine := Nat.lt_of_le_of_lt h (by decide)
theorem take_next {ys : List V} {i : Nat} {y : V} (h : ys[i]? = some y) : ys.take i ++ [y] = ys.take (i + 1) := by
  rw [List.take_add_one, h]
  rfl
theorem lc_mapT {K : PySem.W.Frag} {a : Addr} {xs : List V} {slot : Nat} {te tl : TE} {vs : List Nat} {σ : L2.St} {H : Hp} {Q : VK} (ys : List V) (hl : ys.length = xs.length) (hs : xs.length ≤ 1000) (hT : SqT K H a xs)
    (htl : ∀ R : VK, R (.ref a) H → tl σ H R) (w : ∀ v, wipe ((wipe σ vs).set slot (some v)) vs = wipe σ vs)
    (turn : ∀ (i : Nat) (x y : V) (G : Hp) (R : VK), xs[i]? = some x → ys[i]? = some y → Same H G → (∀ G', Same G G' → R y G') → te ((wipe σ vs).set slot (some x)) G R)
    (done : ∀ (D : Addr) (G : Hp), H D = none → Same H G → G D = some (.lst ys) → Q (.ref D) G) : tLc (iTup K tl) (gName slot) tYes te vs σ H Q := by
  refine htl _ ⟨a, rfl, ⟨xs, hT⟩, fun D nD => ?_⟩
  refine lc_tup (K := K) (a := a) (xs := xs) (fun i G => Same H G ∧ G D = some (.lst (ys.take i))) ⟨same_new nD, upd_same⟩ (fun i G _ h => tupS h.1 hT) ?_ ?_
  · rintro i x G hx ⟨sm, hD⟩
    have hi : i < xs.length := (List.getElem?_eq_some_iff.mp hx).1
    have hy : ys[i]? = some (ys[i]'(by omega)) := List.getElem?_eq_getElem (by omega)
    refine ⟨w x, ?_⟩
    simp only [tYes, ↓reduceIte]
    refine turn i x _ G _ hx hy sm fun G' s' => ⟨ys.take i, s' _ _ hD, ?_, ?_, ?_⟩
    · rw [List.length_take]
      exact small' (by omega)
    · exact putS (sm.trans s') nD
    · rw [upd_same, take_next hy]
  · rintro G ⟨sm, hD⟩
    refine done D G nD sm ?_
    rw [hD, List.take_of_length_le (by omega)]
theorem lc_mapL {K : PySem.W.Frag} {a : Addr} {xs : List V} {slot : Nat} {te tl : TE} {vs : List Nat} {σ : L2.St} {H : Hp} {Q : VK} (ys : List V) (hl : ys.length = xs.length) (hs : xs.length ≤ 1000) (hT : SqL K H a xs)
    (htl : ∀ R : VK, R (.ref a) H → tl σ H R) (w : ∀ v, wipe ((wipe σ vs).set slot (some v)) vs = wipe σ vs)
    (turn : ∀ (i : Nat) (x y : V) (G : Hp) (R : VK), xs[i]? = some x → ys[i]? = some y → Same H G → (∀ G', Same G G' → R y G') → te ((wipe σ vs).set slot (some x)) G R)
    (done : ∀ (D : Addr) (G : Hp), H D = none → Same H G → G D = some (.lst ys) → Q (.ref D) G) : tLc (iList K tl) (gName slot) tYes te vs σ H Q := by
  refine htl _ ⟨a, rfl, ⟨xs, hT⟩, fun D nD => ?_⟩
  refine lc_list (K := K) (a := a) (xs := xs) (fun i G => Same H G ∧ G D = some (.lst (ys.take i))) ⟨same_new nD, upd_same⟩ (fun i G _ h => h.1.seq hT) ?_ ?_
  · rintro i x G hx ⟨sm, hD⟩
    have hi : i < xs.length := (List.getElem?_eq_some_iff.mp hx).1
    have hy : ys[i]? = some (ys[i]'(by omega)) := List.getElem?_eq_getElem (by omega)
    refine ⟨w x, ?_⟩
    simp only [tYes, ↓reduceIte]
    refine turn i x _ G _ hx hy sm fun G' s' => ⟨ys.take i, s' _ _ hD, ?_, ?_, ?_⟩
    · rw [List.length_take]
      exact small' (by omega)
    · exact putS (sm.trans s') nD
    · rw [upd_same, take_next hy]
  · rintro G ⟨sm, hD⟩
    refine done D G nD sm ?_
    rw [hD, List.take_of_length_le (by omega)]

/-! ### str of an int or a text -/
def shV : V → Str
  | .int i => Str.ofString (toString i)
  | .str z => z
  | _ => Str.empty
def FlatV : V → Prop
  | .int i => i.natAbs.log2 < 1920
  | .str _ => True
  | _ => False
theorem call_str_flat {X : Cx} : CallR X (.type "str") (fun xs H Q => ∃ v, xs = [v] ∧ FlatV v ∧ Q (.str (shV v)) H) := by
  rintro pins s σ H xs us Q I rv ⟨v, rfl, hv, q⟩
  cases v with
  | int i => exact call_str_int pins s σ H _ us Q I rv ⟨i, rfl, hv, q⟩
  | str z => exact SkE.call_str_str pins s σ H _ us Q I rv ⟨z, rfl, q⟩
  | _ => exact hv.elim

/-! ### the data -/
structure Ent where
  name : Str
  fee : Int
  has : Bool
  row : List Str
def Ent.ok (e : Ent) : Prop := Fit 8 e.name ∧ e.fee.natAbs < 10 ^ 60 ∧ e.row.length ≤ 8 ∧ ∀ s ∈ e.row, Fit 8 s
def EntAt (K : PySem.W.Frag) (H : Hp) (v : V) (e : Ent) : Prop := ∃ p q, v = .ref p ∧ SqT K H p [.str e.name, .int e.fee, .bl e.has, .ref q] ∧ SqT K H q (e.row.map V.str)
inductive EntsAt (K : PySem.W.Frag) (H : Hp) : List V → List Ent → Prop
  | nil : EntsAt K H [] []
  | cons {v : V} {vs : List V} {e : Ent} {es : List Ent} : EntAt K H v e → EntsAt K H vs es → EntsAt K H (v :: vs) (e :: es)
theorem EntAt.same {K : PySem.W.Frag} {H H' : Hp} {v : V} {e : Ent} (s : Same H H') : EntAt K H v e → EntAt K H' v e := fun ⟨p, q, a, b, c⟩ => ⟨p, q, a, tupS s b, tupS s c⟩
theorem EntsAt.same {K : PySem.W.Frag} {H H' : Hp} (s : Same H H') : ∀ {vs : List V} {es : List Ent}, EntsAt K H vs es → EntsAt K H' vs es
  | _, _, .nil => .nil
  | _, _, .cons a b => .cons (a.same s) (EntsAt.same s b)
theorem EntsAt.len {K : PySem.W.Frag} {H : Hp} : ∀ {vs : List V} {es : List Ent}, EntsAt K H vs es → vs.length = es.length
  | _, _, .nil => rfl
  | _, _, .cons _ b => congrArg Nat.succ (EntsAt.len b)
theorem EntsAt.get {K : PySem.W.Frag} {H : Hp} : ∀ {vs : List V} {es : List Ent} {i : Nat} {v : V}, EntsAt K H vs es → vs[i]? = some v → ∃ e, es[i]? = some e ∧ EntAt K H v e
  | _, _, i, v, .nil, h => by cases h
  | _, _, 0, v, .cons a b, h => by
    have h : some _ = some v := h
    cases h
    exact ⟨_, rfl, a⟩
  | _, _, i + 1, v, .cons a b, h => EntsAt.get (i := i) b h
theorem EntsAt.append {K : PySem.W.Frag} {H : Hp} : ∀ {vs ws : List V} {es ds : List Ent}, EntsAt K H vs es → EntsAt K H ws ds → EntsAt K H (vs ++ ws) (es ++ ds)
  | _, _, _, _, .nil, h => h
  | _, _, _, _, .cons a b, h => .cons a (EntsAt.append b h)
theorem EntsAt.rev {K : PySem.W.Frag} {H : Hp} : ∀ {vs : List V} {es : List Ent}, EntsAt K H vs es → EntsAt K H vs.reverse es.reverse
  | _, _, .nil => .nil
  | _, _, .cons a b => by
    rw [List.reverse_cons, List.reverse_cons]
    exact (EntsAt.rev b).append (.cons a .nil)
structure Pg where
  es : List Ent
  asks : Str
def Pg.ok (g : Pg) : Prop := g.es.length ≤ 12 ∧ (∀ e ∈ g.es, e.ok) ∧ Fit 8 g.asks
def PgAt (K : PySem.W.Frag) (H : Hp) (v : V) (g : Pg) : Prop := ∃ p q vs, v = .ref p ∧ SqT K H p [.ref q, .str g.asks] ∧ SqT K H q vs ∧ EntsAt K H vs g.es
theorem PgAt.same {K : PySem.W.Frag} {H H' : Hp} {v : V} {g : Pg} (s : Same H H') : PgAt K H v g → PgAt K H' v g := fun ⟨p, q, vs, a, b, c, d⟩ => ⟨p, q, vs, a, tupS s b, tupS s c, d.same s⟩

/-! ### the texts -/
def tabT (t : List Str) : Str := if t = [] then ("-" : Str) else Str.join "," t
def wordT (b : Bool) : Str := if b = true then ("has" : Str) else ("not" : Str)
def feeT (i : Int) : Str := Str.ofString (toString i)
def lineT (e : Ent) : Str := Str.join " " ["kind", e.name, feeT e.fee, wordT e.has, tabT e.row]
def pageT (g : Pg) : Str := Str.join "\n" (g.es.map lineT ++ [("asker " : Str) ++ g.asks])
theorem fit_of (s : String) {n : Nat} (h : s.toList.length ≤ n) : Fit n (Str.ofString s) := ⟨by rw [len_string]; exact h, fit_string s⟩
theorem fee_log {i : Int} (h : i.natAbs < 10 ^ 60) : i.natAbs.log2 < 1920 := by
  by_cases z : i.natAbs = 0
  · rw [z]; decide
  · exact (Nat.log2_lt z).mpr (Nat.lt_trans h (by decide))
theorem feeT_fit {i : Int} (h : i.natAbs < 10 ^ 60) : Fit 61 (feeT i) := by
  refine fit_of _ ?_
  have := int_text_length_le10 (k := 60) (by decide) h
  rw [String.length_toList]
  exact this
theorem tabT_fit {t : List Str} (h : t.length ≤ 8) (k : ∀ s ∈ t, Fit 8 s) : Fit 100 (tabT t) := by
  unfold tabT
  split
  · exact fit_of "-" (by decide)
  · refine (Fit.join (m := 1) (fit_of "," (by decide)) t k).mono ?_
    have := Nat.mul_le_mul_right (8 + 1) h
    omega
theorem wordT_fit (b : Bool) : Fit 3 (wordT b) := by
  unfold wordT
  split
  · exact fit_of "has" (by decide)
  · exact fit_of "not" (by decide)
theorem lineT_fit {e : Ent} (h : e.ok) : Fit 600 (lineT e) := by
  obtain ⟨h1, h2, h3, h4⟩ := h
  refine (Fit.join (n := 100) (m := 1) (fit_of " " (by decide)) _ ?_).mono (by simp)
  intro x hx
  simp only [List.mem_cons, List.not_mem_nil, or_false] at hx
  rcases hx with rfl | rfl | rfl | rfl | rfl
  · exact (fit_of "kind" (n := 100) (by decide))
  · exact h1.mono (by omega)
  · exact (feeT_fit h2).mono (by omega)
  · exact (wordT_fit _).mono (by omega)
  · exact (tabT_fit h3 h4)
theorem askT_fit {g : Pg} (h : g.ok) : Fit 600 (("asker " : Str) ++ g.asks) := ((fit_of "asker " (n := 6) (by decide)).app h.2.2).mono (by omega)
theorem pageT_fit {g : Pg} (h : g.ok) : Fit 10000 (pageT g) := by
  refine (Fit.join (n := 600) (m := 1) (fit_of "\n" (by decide)) _ ?_).mono ?_
  · intro x hx
    rcases List.mem_append.mp hx with hx | hx
    · obtain ⟨e, he, rfl⟩ := List.mem_map.mp hx
      exact lineT_fit (h.2.1 e he)
    · obtain rfl := List.mem_singleton.mp hx
      exact askT_fit h
  · have := Nat.mul_le_mul_right (600 + 1) h.1
    rw [List.length_append, List.length_map, List.length_singleton, Nat.add_mul]
    omega
theorem kind_sp : ("kind " : Str) = ("kind" : Str) ++ (" " : Str) := by decide +kernel
theorem line_chain (e : Ent) : Str.empty ++ ("kind " : Str) ++ e.name ++ (" " : Str) ++ feeT e.fee ++ (" " : Str) ++ wordT e.has ++ (" " : Str) ++ tabT e.row = lineT e := by
  unfold lineT
  simp only [Str.join, app_assoc, nil_app, kind_sp]
end Kn


/-! Kn: a def that gets the error which is being handled. -/
namespace Kn
open PySem PySem.Spec PyProof.Rows L2
abbrev ESp := Addr → Value → Option Addr → Sp
section
variable (P : Program) (w : World) (K : PySem.W.Frag) (mg : Str → Option Value) (base : Heap)
structure Handed (k : Nat) (f : Addr) (fd : FuncData) (ps : List Str) (sp : ESp) : Prop where
  many : ∀ a c d vs H Q E, sp a c d vs H Q E → vs.length = ps.length
  goes : ∀ (A : Around) (fr : List Env) (s : Shared) (H : Hp) (g : Args) (us : List Value) (vs : List V) (Q : VK) (E : XK) (p : Addr × Obj) (c : Value) (d : Option Addr), L2H.RoomH k A → A.handled = some (.ref p.1) → Zc c d p.2 → (∃ v, p.2.data = .fields v) →
    L2H.PinOk fr H s p → Env0 P w K mg base A fr s H → BindsTo s fd g (ps.zip us) → Vals vs us → sp p.1 c d vs H Q E → codeAny (model P w) A (.call (.ref f) g) (CR CX0 fr P w H s Q E) s
end
section
variable {P : Program} {w : World} {K : PySem.W.Frag} {mg : Str → Option Value} {base : Heap} {k : Nat} {f : Addr} {fd : FuncData} {ps N : List Str} {sp : ESp} {x qual : Str} {st : Stmt}
theorem mark_same {A : Around} {env : Env} {a : Addr} (h : A.handled = some (.ref a)) : (A.deeper env).mark (some (.ref a)) = A.deeper env := by
  obtain ⟨h1, d, fr, g, u⟩ := A
  cases h
  rfl
theorem Handed.body (F : Fun K x qual st f fd) (S : FnScope N ps (defScope st)) (many : ∀ a c d vs H Q E, sp a c d vs H Q E → vs.length = ps.length)
    (hb : ∀ (cdv : Value) (A : Around) (fr : List Env) (s : Shared) (H : Hp) (vs : List V) (Q : VK) (E : XK) (p : Addr × Obj) (c : Value) (d : Option Addr), Zc c d p.2 → (∃ v, p.2.data = .fields v) → L2H.RoomH k (A.deeper (envOfC qual (defScope st) s.heap.objs.size f cdv)) → sp p.1 c d vs H Q E →
      ∃ t, PSs ((cxOf CX0 P w K mg base N qual (defScope st) f cdv A fr s H E).suite p.1 [(p.1, p.2)]) (defBody st) t ∧ t { nx := fun _ H' => Q .non H', rt := Q } (start N vs) H) :
    Handed P w K mg base (k + 1) f fd ps sp := by
  obtain ⟨oc, od, kV, doc, pm, an, cdv, ct, osl, rfl, look, cdOk⟩ := F.ex
  refine ⟨many, fun A fr s H g us vs Q E p c d room hot hz hf pin z bound rv told => ?_⟩
  have held : ∀ b o, base.get? b = some o → s.heap.get? b = some o := fun b o y => (z.bs b o y).1
  have KS : K.In s.heap := z.mod.kin.keeps held
  have parL : ∀ y ∈ ps.zip us, (defScope st).names.lookup y.1 = some .local ∨ ((defScope st).names.lookup y.1 = some .cell ∧ ((cellsFrom (s.heap.objs.size + 1) (defScope st).names []).lookup y.1).isSome = true) := by
    rintro ⟨n, v⟩ hy
    cases S.par n (List.of_mem_zip hy).1 with
    | inl q => exact .inl q
    | inr q => exact .inr ⟨q, PySem.W.cellsFrom_some _ _ _ (.inl q)⟩
  refine codeAny_call_function room.depth (KS _ _ look) rfl S.co S.gen rfl (PySem.W.codeRec_of KS cdOk) (bound _ _ _ _ ?_)
  refine wpAny_newFunctionEnv_cells S.kind parL ?_
  rintro env rfl s1 y
  refine ⟨(z.mod.nolimit.keeps held).keeps y.toInCall.keep, codeAny_func ?_⟩
  obtain ⟨t, ht, ends⟩ := hb cdv A fr s H vs Q E p c d hz hf (room.deeper _) told
  have I := L2H.inv_startH (CX := CX0) (P := P) (mg := mg) (E := E) S pin z (many _ _ _ _ _ _ _ told) rv y
  have ec : (cxOf CX0 P w K mg base N qual (defScope st) f cdv A fr s H E).suite p.1 [(p.1, p.2)] = (L2H.cxH CX0 P w K mg base N qual (defScope st) f cdv A fr s H E p).nox := by
    have em := mark_same (env := envOfC qual (defScope st) s.heap.objs.size f cdv) hot
    show ({ cxOf CX0 P w K mg base N qual (defScope st) f cdv A fr s H E with A := (A.deeper (envOfC qual (defScope st) s.heap.objs.size f cdv)).mark (some (.ref p.1)), calm := false, pn := [(p.1, p.2)], xe := fun _ _ => False } : Cx) = _
    rw [em]
    rfl
  rw [ec] at ht
  refine wpAny_mono (ht.nox.run [] s1 (start N vs) H _ I ends) ?_ (fun _ _ q => q)
  intro fl s2 hs
  cases fl with
  | ret u => obtain ⟨v, σ2, H2, J, r2, q⟩ := hs; exact ⟨v, H2, J.os, J.bare, J.base, J.hok, r2, q⟩
  | next => obtain ⟨σ2, H2, J, q⟩ := hs; exact ⟨V.non, H2, J.os, J.bare, J.base, J.hok, rfl, q⟩
  | brk => obtain ⟨_, _, _, q⟩ := hs; exact q.elim
  | cont => obtain ⟨_, _, _, q⟩ := hs; exact q.elim
end
section
variable {X : Cx} {k : Nat} {f : Addr} {fd : FuncData} {ps : List Str} {sp : ESp} {x : Str} {p pos : Pos} {e : Expr} {es : List Expr} {t : TA} {a : Addr} {oe : Obj} {c : Value} {d : Option Addr} {pn : List (Addr × Obj)}
/-- f(err, ..) within the suite that handles err -/
theorem pe_hand (F : Handed X.prog X.w X.K X.mg X.base k f fd ps sp) (hr : L2H.RoomH k X.A) (hz : Zc c d oe) (hf : ∃ v, oe.data = .fields v) (hg : Gl X x) (hm : X.mg x = some (.ref f)) (hk : PySem.W.keepIn X.K (.ref f) = true) (hb : Binds X.K fd ps [])
    (ha : PA (X.suite a ((a, oe) :: pn)) (e :: es) t) (hdb : (x == ("__debug__" : Str)) = false := by decide) (he : starEach (e :: es) X.env = (false, eval e X.env) :: starEach es X.env := by rfl) (hpl : (backTo pos (starEach es X.env)).any (·.1) = false := by rfl) :
    PE (X.suite a ((a, oe) :: pn)) (.Call (.Name x p) (e :: es) [] pos) (tCall (sp a c d) [] E0 t) := by
  refine ⟨fun pins s σ H Q I told => wpAny_Call_Name_kw (ld_glob I hg hm ?_ hdb)⟩
  refine PySem.W.callWith_K (h₀ := X.base) I.ok.mod.kin hk (thn (ha.run pos pins s σ H _ I told) ?_) he hpl
  rintro us s1 ⟨vs, H1, I1, rv, q⟩
  refine ⟨I1.kIn, ?_⟩
  have q : sp a c d (vs ++ []) H1 Q E0 := q
  rw [List.append_nil] at q
  have hl : (us ++ []).length = ps.length := by rw [List.append_nil, ← rv.length]; exact F.many _ _ _ _ _ _ _ q
  have hb1 := hb s1 us I1.kIn hl
  rw [List.append_nil] at hb1
  have at_ := I1.pin (a, oe) (List.mem_append_left _ List.mem_cons_self)
  have pin : L2H.PinOk X.stack H1 s1 (a, oe) := by
    refine ⟨at_.1, at_.2.1, fun hm => ?_, at_.2.2.2.2⟩
    rcases List.mem_cons.mp (I1.stkSub a hm) with z | z
    · exact at_.2.2.1 z
    · exact at_.2.2.2.1 z
  refine wpAny_call (codeAny_mono (F.goes (X.A.mark (some (.ref a))) X.stack s1 H1 ⟨us, []⟩ us vs Q E0 (a, oe) c d ⟨hr.dp, hr.un⟩ rfl hz hf pin I1.env0 hb1 rv q) ?_)
  intro r s2 out
  cases r with
  | error _ => exact False.elim out
  | ok fl =>
    cases fl with
    | ret u => exact I1.after out
    | next => exact False.elim out
    | brk => exact False.elim out
    | cont => exact False.elim out
end
end Kn


/-! Kn: isinstance of a handled error with fields; how many of a list's bools are k. -/
namespace Kn
open PySem PySem.Spec PyProof.Rows L2
/-- what isinstance reads off an error's class -/
structure IsC (K : PySem.W.Frag) (D : Addr) : Prop where
  c : (PySem.W.clsIn K D).isSome = true
  ga : PySem.W.findIn K (.ref D) "__getattribute__" = some (some (.builtin "BaseException.__getattribute__"))
  gg : PySem.W.findIn K (.ref D) "__getattr__" = some none
  ex : PySem.W.subIn K (.ref D) (.type "BaseException") = some true
  ha : PySem.W.findIn K (.ref D) "__class__" = some (some (.builtin "object.__class__"))
  hn : PySem.W.specialIn K (.builtin "object.__class__") "__get__" = some (some (.builtin "getset_descriptor.__get__"))
  ht : PySem.W.takesIn K (.builtin "object.__class__") = some true
  hm : PySem.W.mroIn K D (.type "object") = some true
def rIsF (K : PySem.W.Frag) (D : Addr) (d : Option Addr) (a : Addr) : List V → Hp → VK → Prop := fun xs H Q =>
  ∃ (c : V) (cv : Value) (b : Bool) (dd : Addr) (fs : List (Str × V)), xs = [.ref a, c] ∧ (∀ u, RelV c u → u = cv) ∧ PySem.W.kitOne K (.ref D) cv = some b ∧ d = some dd ∧ H dd = some (.xd fs) ∧ Q (.bl b) H
section
variable {X : Cx}
theorem call_isF {a D : Addr} {d : Option Addr} {oe : Obj} {pn : List (Addr × Obj)} (C : IsC X.K D) (hz : Zc (.ref D) d oe) (hf : ∃ v, oe.data = .fields v) : CallR (X.suite a ((a, oe) :: pn)) (.builtin "isinstance") (rIsF X.K D d a) := by
  rintro pins s σ H xs us Q I rv ⟨c, cv, b, dd, fs, rfl, only, kit, rfl, hd, q⟩
  cases rv with
  | cons r1 rest =>
    cases rest with
    | cons r2 rest =>
      cases rest
      cases r1
      cases only _ r2
      have at_ := (I.pin (a, oe) (List.mem_append_left _ List.mem_cons_self)).1
      obtain ⟨v, dv⟩ := hf
      obtain ⟨m, nsd, _⟩ := (I.hok dd _ hd : ∃ m, s.heap.Ns1 dd m ∧ ∀ f, RelO (fs.lookup f) (m f))
      obtain ⟨od, hod, _⟩ := lookIn_ns nsd
      have inst : PySem.W.InstAt s.heap a oe D (some od) := by
        refine ⟨at_, hz.1, ?_, ?_⟩
        · unfold PySem.W.notCls
          rw [dv] <;> rfl
        · rw [hz.2]
          exact hod
      exact PySem.W.kia_one (PySem.W.kitx_exc C.c C.ga C.gg C.ex C.ha C.hn C.ht C.hm) I.kIn inst kit (fun z => nomatch z) fun tk => ⟨.bl b, H, I.kept (t' := tk) fun _ _ z => z, rfl, q⟩
def rCntB (K : PySem.W.Frag) : V → List V → Hp → VK → Prop := fun x xs H Q => ∃ (p : Addr) (bs : List Bool) (k : Bool), x = .ref p ∧ xs = [.bl k] ∧ SqL K H p (bs.map V.bl) ∧ Q (.int (bs.count k : Nat)) H
theorem bools_of {bs : List Bool} {its : List Value} (h : Vals (bs.map V.bl) its) : its = bs.map Value.bool := by
  induction bs generalizing its with
  | nil => cases h; rfl
  | cons b r ih =>
    cases h with
    | cons r1 rr =>
      cases r1
      rw [ih rr]
      rfl
theorem mt_bcount : MtR X "list.count" (rCntB X.K) := by
  rintro pins s σ H x xs v us Q I rx rxs ⟨p, bs, k, rfl, rfl, hs, q⟩
  cases rx
  obtain ⟨u, rfl, ru⟩ := rxs.one
  cases ru
  obtain ⟨its, rv, ⟨⟨cls, dd, data, sl⟩, n, ho, hc, hdn, hd⟩, hlen⟩ := I.list hs
  dsimp only at hc hd
  subst hc hd
  have e := bools_of rv
  have ec : ∀ bs : List Bool, (bs.map Value.bool).countP (isBoolOf k) = bs.count k := fun bs => by
    induction bs with
    | nil => rfl
    | cons b r ih =>
      rw [List.map_cons, List.countP_cons, List.count_cons, ih]
      rfl
  refine call_meets PySem.F.slot_list_count ⟨_, ho, rfl⟩ PySem.F.entry_list_count (PySem.F.args_list_count_2 _ _) (PySem.SeqAt.list_countAt p its.toArray n dd sl (.bool k) (isBoolOf k)) ⟨ho, fun y hy => ?_, ?_⟩
  · have hy : y ∈ its := by simpa using hy
    rw [e] at hy
    obtain ⟨b, _, rfl⟩ := List.mem_map.mp hy
    exact PySem.SeqAt.EqAt.bool_bool b k
  · refine ⟨.int (bs.count k : Nat), H, I.tok _, ⟨s.toks, ?_⟩, q⟩
    show Value.int ((its.toArray.toList.countP (isBoolOf k) : Nat) : Int) s.toks = _
    have e2 : its.toArray.toList = bs.map Value.bool := e
    rw [e2, ec]
theorem pt_off {e : Expr} : PT X e (fun _ _ _ => False) := ⟨fun _ _ _ _ _ _ h => h.elim⟩
end
end Kn


namespace Kn
open PySem PySem.Spec PyProof.Rows L2
/-! ### f(x = e): one parameter, given by its name -/
section
variable {X : Cx} {k : Nat} {f : Addr} {fd : FuncData} {y x : Str} {sp : Sp} {p pos kpos : Pos} {e : Expr} {te : TE}
def tKw (sp : Sp) (te : TE) : TE := fun σ H Q => te σ H fun v G => sp [v] G Q E0
theorem pe_kw1 (F : FnOk X.prog X.w X.K X.mg X.base CX0 k f fd [y] sp) (hr : Room k X.A) (hg : Gl X x) (hm : X.mg x = some (.ref f)) (hk : PySem.W.keepIn X.K (.ref f) = true)
    (hb : ∀ (s : Shared) (u : Value), BindsTo s fd ⟨[], [(y, u)]⟩ [(y, u)]) (he : PE X e te) (hdb : (x == ("__debug__" : Str)) = false := by decide)
    (h1 : (backToKw pos (keywordEach [⟨some y, e, kpos⟩] X.env)).all (·.1.isSome) = true := by rfl) (h2 : (backToKw pos (keywordEach [⟨some y, e, kpos⟩] X.env)).filterMap (·.1) = [y] := by rfl)
    (h3 : ((backTo pos (starEach [] X.env)).any (·.1) || (backToKw pos (keywordEach [⟨some y, e, kpos⟩] X.env)).any (·.1.isNone)) = false := by rfl) :
    PE X (.Call (.Name x p) [] [⟨some y, e, kpos⟩] pos) (tKw sp te) := by
  have hkw : PK X [⟨some y, e, kpos⟩] (tCons te tNil) := pk_cons he pk_nil
  refine ⟨fun pins s σ H Q I told => wpAny_Call_Name_kw (ld_glob I hg hm ?_ hdb)⟩
  refine PySem.W.callWith_KW0 (h₀ := X.base) I.ok.mod.kin hk h1 (thn (hkw.run pos pins s σ H (fun vs G => sp vs G Q E0) I told) ?_) h3
  · rintro us s1 ⟨vs, H1, I1, rv, q⟩
    refine ⟨I1.kIn, ?_⟩
    rw [h2]
    have n1 := F.len _ _ _ _ q
    obtain ⟨v, rfl⟩ : ∃ v, vs = [v] := by
      match vs, n1 with
      | [v], _ => exact ⟨v, rfl⟩
    obtain ⟨u, rfl, ru⟩ := vals1 rv
    refine wpAny_call (codeAny_mono (F.run X.A X.stack s1 H1 ⟨[], [(y, u)]⟩ [u] [v] Q E0 hr I1.env0 (hb s1 u) rv q) ?_)
    intro r s2 out
    cases r with
    | error _ => exact False.elim out
    | ok fl =>
      cases fl with
      | ret u => exact I1.after out
      | next => exact False.elim out
      | brk => exact False.elim out
      | cont => exact False.elim out
end
/-! ### f(y1 = e1, y2 = e2), the other way about than the def names them; nothing is raised -/
section
theorem passF {X : Cx} : Passes (L2.CX X.prog X.w) X E0 := by
  rintro pins σ H s e s' I ⟨_, _, _, _, _, _, _, _, _, _, _, _, z⟩
  exact z.elim
variable {X : Cx} {k : Nat} {f : Addr} {fd : FuncData} {y1 y2 x : Str} {sp : Sp} {p pos k1 k2 : Pos} {e1 e2 : Expr} {t1 t2 : TE}
def tKw2 (sp : Sp) (t1 t2 : TE) : TE := fun σ H Q => t1 σ H fun u G => t2 σ G fun v G' => sp [v, u] G' Q E0
theorem pe_kw2 (F : FnOk X.prog X.w X.K X.mg X.base (L2.CX X.prog X.w) k f fd [y2, y1] sp) (hr : Room k X.A) (hg : Gl X x) (hm : X.mg x = some (.ref f)) (hk : PySem.W.keepIn X.K (.ref f) = true)
    (hb : ∀ (s : Shared) (u v : Value), BindsTo s fd ⟨[], [(y1, u), (y2, v)]⟩ [(y2, v), (y1, u)]) (he1 : PE X e1 t1) (he2 : PE X e2 t2) (hdb : (x == ("__debug__" : Str)) = false := by decide)
    (h1 : (backToKw pos (keywordEach [⟨some y1, e1, k1⟩, ⟨some y2, e2, k2⟩] X.env)).all (·.1.isSome) = true := by rfl) (h2 : (backToKw pos (keywordEach [⟨some y1, e1, k1⟩, ⟨some y2, e2, k2⟩] X.env)).filterMap (·.1) = [y1, y2] := by rfl)
    (h3 : ((backTo pos (starEach [] X.env)).any (·.1) || (backToKw pos (keywordEach [⟨some y1, e1, k1⟩, ⟨some y2, e2, k2⟩] X.env)).any (·.1.isNone)) = false := by rfl) :
    PE X (.Call (.Name x p) [] [⟨some y1, e1, k1⟩, ⟨some y2, e2, k2⟩] pos) (tKw2 sp t1 t2) := by
  have hkw : PK X [⟨some y1, e1, k1⟩, ⟨some y2, e2, k2⟩] (tCons t1 (tCons t2 tNil)) := pk_cons he1 (pk_cons he2 pk_nil)
  refine ⟨fun pins s σ H Q I told => wpAny_Call_Name_kw (ld_glob I hg hm ?_ hdb)⟩
  refine PySem.W.callWith_KW0 (h₀ := X.base) I.ok.mod.kin hk h1 (thn (hkw.run pos pins s σ H (fun vs G => ∃ u v, vs = [u, v] ∧ sp [v, u] G Q E0) I ?_) ?_) h3
  · exact (told : t1 σ H fun u G => t2 σ G fun v G' => sp [v, u] G' Q E0) |> fun z => by
      have mono : (tCons t1 (tCons t2 tNil)) σ H (fun vs G => ∃ u v, vs = [u, v] ∧ sp [v, u] G Q E0) = (t1 σ H fun u G => t2 σ G fun v G' => ∃ u' v', [u, v] = [u', v'] ∧ sp [v', u'] G' Q E0) := rfl
      rw [mono]
      have e : (fun (u : V) (G : Hp) => t2 σ G fun v G' => ∃ u' v', [u, v] = [u', v'] ∧ sp [v', u'] G' Q E0) = fun u G => t2 σ G fun v G' => sp [v, u] G' Q E0 := by
        funext u G
        have e2 : (fun (v : V) (G' : Hp) => ∃ u' v', [u, v] = [u', v'] ∧ sp [v', u'] G' Q E0) = fun v G' => sp [v, u] G' Q E0 := by
          funext v G'
          exact propext ⟨fun ⟨u', v', h, q⟩ => by cases h; exact q, fun q => ⟨u, v, rfl, q⟩⟩
        rw [e2]
      rw [e]
      exact z
  · rintro us s1 ⟨vs, H1, I1, rv, u0, v0, rfl, q⟩
    refine ⟨I1.kIn, ?_⟩
    rw [h2]
    cases rv with
    | cons r1 rr =>
      cases rr with
      | cons r2 rr =>
        cases rr
        refine wpAny_call (codeAny_mono (F.run X.A X.stack s1 H1 ⟨[], [(y1, _), (y2, _)]⟩ [_, _] [v0, u0] Q E0 hr I1.env0 (hb s1 _ _) (.cons r2 (.cons r1 .nil)) q) ?_)
        intro r s2 out
        cases r with
        | error e => exact passF pins σ H1 s1 e s2 I1 out
        | ok fl =>
          cases fl with
          | ret u => exact I1.after out
          | next => exact False.elim out
          | brk => exact False.elim out
          | cont => exact False.elim out
end
end Kn


/-! Kn: the end of a law that makes lambdas, its promise a Vow. -/
namespace Kn
open PySem PySem.Spec PyProof.Rows L2 LamX
section
variable {P : Program} {w : World} {K : PySem.W.Frag} {mg mb : Str → Option Value} {k : Nat} {fa a : Addr} {fd : FuncData} {x : Str} {sp : Sp} {s : Shared} {vs : List Value} {ns : List Int} {cs : List (Addr × Addr)}
theorem end_vowT (kin : K.In s.heap) (nsm : s.heap.Ns mainGlobals mg) (nsb : s.heap.Ns builtinsNs mb) (boot : ∀ y : Str, y ≠ "__name__" → mb y = bootBuiltins y) (lim : s.heap.NoLimit) (gens : s.gens = #[])
    (empty : ∀ q ∈ cs, s.heap.get? q.2 = some { cls := .none, data := .fields #[] }) (aside : ∀ q ∈ cs, K.lookup q.2 = none) (codes : ∀ q ∈ cs, PySem.W.CodeHd s.heap q.1 q.2)
    (module : ∃ (bm : Addr) (ob : Obj), mg "__builtins__" = some (.ref bm) ∧ bm ≠ builtinsNs ∧ s.heap.get? bm = some ob ∧ ob.cls = .type "module" ∧ ob.dict = some builtinsNs ∧ ob.data = .plain)
    (at_ : s.heap.get? a = some { cls := .type "list", data := .seq vs.toArray }) (iv : IntsAre vs ns) (short : ns.length ≤ sizeLine) (room : Room k callerA)
    (F : ∀ base : Heap, K.In base → base.Ns mainGlobals mg → (∀ q ∈ cs, TabB base mg q.1 q.2) → Vow P w K mg base k fa fd [x] sp) (bound : ∀ (z : Shared) (u : Value), BindsTo z fd ⟨[u], []⟩ [(x, u)])
    (told : ∀ H : Hp, (∀ q ∈ cs, H q.2 = some (.tbl #[])) → SqL K H a (ns.map V.int) → sp [.ref a] H (fun v _ => v = .bl true) E0) :
    codeAny (model P w) callerA (.call (.ref fa) ⟨[.ref a], []⟩) (fun r s' => r = .ok (.ret (.bool true)) ∧ OldK s.heap s'.heap ∧ s'.os = s.os ∧ AllBare s'.gens) s := by
  have many : ns.length = vs.length := by rw [iv.length]
  have rv : Vals (ns.map V.int) vs := vals_ints iv
  have tabAt : ∀ b : Addr, b ∈ cs.map (·.2) → s.heap.get? b = some { cls := .none, data := .fields #[] } := by
    intro b hb
    obtain ⟨q, hq, rfl⟩ := List.mem_map.mp hb
    exact empty q hq
  have apart : a ∉ cs.map (·.2) := by
    intro z
    have y := tabAt a z
    rw [at_] at y
    have y2 : Data.seq vs.toArray _ = Data.fields #[] := congrArg Obj.data (Option.some.inj y)
    cases y2
  have inT : ∀ q ∈ cs, q.2 ∈ cs.map (·.2) := fun q hq => List.mem_map.mpr ⟨q, hq, rfl⟩
  have main : ∀ H : Hp, (∀ q ∈ cs, H q.2 = some (.tbl #[])) → (∀ b, H b = none ∨ b ∈ cs.map (·.2) ∨ ∃ o xs, H b = some (.frz o (.lst xs))) → SqL K H a (ns.map V.int) → HOk P w H s.heap → (∀ b u, H b = some u → b = a ∨ b ∈ cs.map (·.2)) → ((∃ u, H a = some u) → K.lookup a = none) →
      codeAny (model P w) callerA (.call (.ref fa) ⟨[.ref a], []⟩) (fun r s' => r = .ok (.ret (.bool true)) ∧ OldK s.heap s'.heap ∧ s'.os = s.os ∧ AllBare s'.gens) s := by
    intro H tbl only lst ok alone notK
    have free : ∀ b o, s.heap.get? b = some o → (∀ us m, o.data ≠ .seq us m) → o.data ≠ .fields #[] → H b = none := by
      intro b o y n1 n2
      cases q : H b with
      | none => rfl
      | some u =>
        rcases alone b u q with rfl | hb
        · rw [at_] at y
          cases y
          exact absurd rfl (n1 _ _)
        · rw [tabAt b hb] at y
          cases y
          exact absurd rfl n2
    have dictF : ∀ {b : Addr} {o : Obj} {es : Array DictEntry} {ep : Nat}, s.heap.get? b = some o → o.data = .dict es ep → H b = none := by
      intro b o es ep y dd
      refine free b o y (fun us m z => ?_) (fun z => ?_) <;> (rw [dd] at z; cases z)
    have nsk : ∀ {b : Addr} {m : Str → Option Value}, s.heap.Ns b m → (hidT s.heap H).Ns b m := by
      rintro b m ⟨o, es, ep, y, dd, r⟩
      exact ⟨o, es, ep, hidT_get y (dictF y dd), dd, r⟩
    have kinB : K.In (hidT s.heap H) := by
      intro b o y
      refine hidT_get (kin b o y) ?_
      cases q : H b with
      | none => rfl
      | some u =>
        rcases alone b u q with rfl | hb
        · rw [notK ⟨u, q⟩] at y
          cases y
        · obtain ⟨t, ht, rfl⟩ := List.mem_map.mp hb
          rw [aside t ht] at y
          cases y
    obtain ⟨mc, c1, c2⟩ := lim
    have md : Mod K mg (hidT s.heap H) := ⟨kinB, nsk nsm, ⟨mb, nsk nsb, boot⟩, mc, nsk c1, c2⟩
    have TB : ∀ q ∈ cs, TabB (hidT s.heap H) mg q.1 q.2 := by
      intro q hq
      have eq_ := empty q hq
      refine ⟨?_, ?_, ?_⟩
      · obtain ⟨o, us, file, tf, flags, tg, inF, text, tt, y1, yc, y2, y3, rest⟩ := codes q hq
        refine ⟨o, us, file, tf, flags, tg, inF, text, tt, hidT_get y1 (free _ _ y1 (fun _ _ z => ?_) (fun z => ?_)), yc, y2, y3, rest⟩
        · rw [y2] at z
          cases z
        · rw [y2] at z
          cases z
          simp at y3
      · obtain ⟨bm, ob, b1, b2, b3, b4, b5, b6⟩ := module
        have n1 : bm ≠ mainGlobals := by
          rintro rfl
          obtain ⟨o, es, ep, y, dd, _⟩ := nsm
          rw [y] at b3
          cases b3
          rw [dd] at b6
          cases b6
        have n2 : bm ≠ q.2 := by
          intro z
          rw [z, eq_] at b3
          cases b3
          cases b6
        refine ⟨bm, ob, b1, b2, n1, n2, hidT_get b3 (free _ _ b3 (fun _ _ z => ?_) (fun z => ?_)), b4, b5, b6⟩
        · rw [b6] at z
          cases z
        · rw [b6] at z
          cases z
      · intro z
        obtain ⟨o, es, ep, y, dd, _⟩ := nsm
        rw [z, eq_] at y
        cases y
        cases dd
    have noL : ∀ {b : Addr}, b ∉ ([] : List Addr) := fun h => by cases h
    have z : Env0 P w K mg (hidT s.heap H) callerA [] s H := ⟨rfl, md, fun b o y => of_hidT y, Nat.le_of_eq (hidT_size _ _), trivial, fun b h => absurd h noL, ok, .of_eq gens⟩
    have run := (F _ kinB (nsk nsm) TB).goes callerA [] s H ⟨[.ref a], []⟩ [.ref a] [.ref a] _ _ rfl room z (bound s (.ref a)) (.cons rfl .nil) (told H tbl lst)
    refine codeAny_mono run ?_
    intro r s2 out
    cases r with
    | error _ => exact False.elim out
    | ok fl =>
      cases fl with
      | next => exact False.elim out
      | brk => exact False.elim out
      | cont => exact False.elim out
      | ret u =>
        obtain ⟨v, H2, os, bare, un, ok2, r2, rfl⟩ := out
        obtain rfl : u = Value.bool true := r2
        have old : ∀ b o, b ∉ cs.map (·.2) → s.heap.get? b = some o → s2.heap.get? b = some o := by
          intro b o nb y
          cases q : H b with
          | none => exact un.keep b o y q noL noL
          | some u =>
            rcases only b with n | n | ⟨ob, xs, n⟩
            · rw [q] at n
              cases n
            · exact absurd n nb
            · obtain ⟨y1, _⟩ := ok b _ n
              obtain ⟨y2, _⟩ := ok2 b _ (un.frzs b ob _ n)
              rw [y] at y1
              cases y1
              exact y2
        have more : ∀ q ∈ cs, ∃ us : Array Value, s2.heap.get? q.2 = some { cls := .none, data := .fields us } := by
          intro q hq
          obtain ⟨us, y⟩ := un.tbls q.2 #[] (tbl q hq)
          exact ⟨_, ok2 q.2 _ y⟩
        refine ⟨rfl, ⟨fun b o y => ?_, fun b o y => ?_⟩, os, bare⟩
        · by_cases hb : b ∈ cs.map (·.2)
          · obtain ⟨q, hq, rfl⟩ := List.mem_map.mp hb
            obtain ⟨us, hus⟩ := more q hq
            rw [empty q hq] at y
            cases y
            exact .inr (.inl ⟨((codes q hq).tab (empty q hq)).isCodeTable, rfl, #[], us, rfl, by rw [Array.empty_append]; exact hus⟩)
          · exact .inl (old b o hb y)
        · by_cases hb : b ∈ cs.map (·.2)
          · obtain ⟨q, hq, rfl⟩ := List.mem_map.mp hb
            obtain ⟨us, hus⟩ := more q hq
            exact ⟨_, hus⟩
          · exact ⟨o, old b o hb y⟩
  cases hk : K.lookup a with
  | some o =>
    have y := kin a o hk
    rw [at_] at y
    cases y
    refine main (fun b => if b ∈ cs.map (·.2) then some (.tbl #[]) else none) (fun q hq => if_pos (inT q hq)) (fun b => ?_) (.inr ⟨_, vs.toArray, _, hk, rfl, rfl, rfl, by rw [List.size_toArray, ← many]; exact short, by simpa using rv⟩) (fun b u q => ?_) (fun b u q => ?_) ?_
    · by_cases hb : b ∈ cs.map (·.2)
      · exact .inr (.inl hb)
      · exact .inl (if_neg hb)
    · by_cases hb : b ∈ cs.map (·.2)
      · cases (if_pos hb).symm.trans q
        exact tabAt b hb
      · cases (if_neg hb).symm.trans q
    · by_cases hb : b ∈ cs.map (·.2)
      · exact .inr hb
      · cases (if_neg hb).symm.trans q
    · rintro ⟨u, q⟩
      cases (if_neg apart).symm.trans q
  | none =>
    refine main (fun b => if b = a then some (.frz { cls := .type "list", data := .seq vs.toArray } (.lst (ns.map V.int))) else if b ∈ cs.map (·.2) then some (.tbl #[]) else none) (fun q hq => ?_) (fun b => ?_) (.inl (.inr ⟨{ cls := .type "list", data := .seq vs.toArray }, if_pos rfl⟩)) (fun b u q => ?_) (fun b u q => ?_) (fun _ => hk)
    · have ne : ¬ q.2 = a := fun z => apart (z ▸ inT q hq)
      exact (if_neg ne).trans (if_pos (inT q hq))
    · by_cases hb : b = a
      · exact .inr (.inr ⟨_, _, if_pos hb⟩)
      · by_cases h2 : b ∈ cs.map (·.2)
        · exact .inr (.inl h2)
        · exact .inl ((if_neg hb).trans (if_neg h2))
    · by_cases hb : b = a
      · subst hb
        cases (if_pos rfl).symm.trans q
        exact ⟨at_, by rw [List.length_map]; exact short, vs, _, rv, at_⟩
      · have q2 := (if_neg hb).symm.trans q
        by_cases h2 : b ∈ cs.map (·.2)
        · cases (if_pos h2).symm.trans q2
          exact tabAt b h2
        · cases (if_neg h2).symm.trans q2
    · by_cases hb : b = a
      · exact .inl hb
      · by_cases h2 : b ∈ cs.map (·.2)
        · exact .inr h2
        · cases ((if_neg hb).trans (if_neg h2)).symm.trans q
/-- T: whose defs make lambdas, by code object, table and name -/
theorem walk_vowT {l : PySem.W.OpenLaw} {q : Program} {loose : List Str} {XP : (Str → Option Value) → Heap → Prop} {YP : World → Heap → Prop} {d : DefRec} {K : Params → PySem.W.Frag} {sp : List (Addr × Addr) → PySem.W.Frag → Sp}
    (most : l.most = some 63) (dflt : d.params.defaults = []) (room : Room k callerA) (hY : ∀ (w : World) (h : Heap), YP w h → (K w.params).In h)
    (F : ∀ (w : World) (loose' : List Str) (mean : ExcName → Option Value) (mg mb : Str → Option Value) (fa : Addr) (h : Heap), Top q loose' mean mg mb h → (K w.params).In h → h.Ns mainGlobals mg → mg d.name = some (.ref fa) →
      ∃ (fd : FuncData) (cs : List (Addr × Addr)), (∀ (z : Shared) (u : Value), BindsTo z fd ⟨[u], []⟩ [(x, u)]) ∧ (∀ t ∈ cs, h.get? t.2 = some { cls := .none, data := .fields #[] }) ∧ (∀ t ∈ cs, (K w.params).lookup t.2 = none) ∧ (∀ t ∈ cs, PySem.W.CodeHd h t.1 t.2) ∧
        ∀ base : Heap, (K w.params).In base → base.Ns mainGlobals mg → (∀ t ∈ cs, TabB base mg t.1 t.2) → Vow l.prog w (K w.params) mg base k fa fd [x] (sp cs (K w.params)))
    (told : ∀ (cs : List (Addr × Addr)) (K : PySem.W.Frag) (H : Hp) (a : Addr) (ns : List Int), ns.length ≤ 63 → (∀ t ∈ cs, H t.2 = some (.tbl #[])) → SqL K H a (ns.map V.int) → sp cs K [.ref a] H (fun v _ => v = .bl true) E0) :
    PySem.W.WalkO q loose XP YP l.row.toRowW d [] (fun f vs => PySem.call f vs) := by
  refine Att.attach_call most dflt ?_
  intro w s0 s1 mg mb fa o pm cd doc a vs ns G Y ho hd hcd hmg hobj iv short gens
  have kin := hY w _ Y
  obtain ⟨fd, cs, hb, h1, h2, h3, hF⟩ := F w _ _ mg mb fa _ G.T kin G.T.g hmg
  exact end_vowT kin G.T.g G.T.b G.T.builtins G.T.nolimit gens h1 h2 h3 G.T.bmain hobj iv (Nat.le_trans short (by decide)) room hF hb (fun H ht hS => told _ _ H a ns short ht hS)
end
end Kn


/-! Kn: isinstance of data. -/
namespace Kn
open PySem PySem.Spec PyProof.Rows L2
def tyName : PyData → String
  | .none => "NoneType"
  | .bool _ => "bool"
  | .int _ => "int"
  | .str _ => "str"
  | .list _ => "list"
  | .tuple _ => "tuple"
  | .dict _ => "dict"
def intB : PyData → Bool
  | .int _ => true
  | _ => false
def boolB : PyData → Bool
  | .bool _ => true
  | _ => false
def strB : PyData → Bool
  | .str _ => true
  | _ => false
def posB : PyData → Bool
  | .int n => decide (1 ≤ n)
  | _ => false
theorem ty_of {K : PySem.W.Frag} {H : Hp} {v : V} {d : PyData} (h : Dp K H v d) : TyX K H v (.type (tyName d)) := by
  cases h with
  | non => exact .base .non
  | bl b => exact .base (.bl b)
  | int i => exact .base (.int i)
  | str x => exact .base (.str x)
  | lst h k =>
    rcases h with (h | ⟨o, h⟩) | ⟨o, its, n, h, c, _⟩
    · exact .base (.lst h)
    · exact .base (.frz h)
    · exact .kList h c
  | tup h k =>
    rcases h with (h | ⟨o, h⟩) | ⟨o, its, n, h, c, _⟩
    · exact .base (.tup h)
    · exact .fTuple h
    · exact .kTuple h c
theorem no_dict {K : PySem.W.Frag} {H : Hp} {v : V} {es : List (PyData × PyData)} (h : Dp K H v (.dict es)) : False := by cases h
section
variable {K : PySem.W.Frag} {d : PyData}
theorem kit_int : PySem.W.kitOne K (.type (tyName d)) (.type "int") = some (intB d || boolB d) := by
  cases d with
  | none => exact kit_ty (K := K) (a := "NoneType") (b := "int") (r := false) (by decide +kernel)
  | bool _ => exact kit_ty (K := K) (a := "bool") (b := "int") (r := true) (by decide +kernel)
  | int _ => exact kit_ty (K := K) (a := "int") (b := "int") (r := true) (by decide +kernel)
  | str _ => exact kit_ty (K := K) (a := "str") (b := "int") (r := false) (by decide +kernel)
  | list _ => exact kit_ty (K := K) (a := "list") (b := "int") (r := false) (by decide +kernel)
  | tuple _ => exact kit_ty (K := K) (a := "tuple") (b := "int") (r := false) (by decide +kernel)
  | dict _ => exact kit_ty (K := K) (a := "dict") (b := "int") (r := false) (by decide +kernel)
theorem kit_bool : PySem.W.kitOne K (.type (tyName d)) (.type "bool") = some (boolB d) := by
  cases d with
  | none => exact kit_ty (K := K) (a := "NoneType") (b := "bool") (r := false) (by decide +kernel)
  | bool _ => exact kit_ty (K := K) (a := "bool") (b := "bool") (r := true) (by decide +kernel)
  | int _ => exact kit_ty (K := K) (a := "int") (b := "bool") (r := false) (by decide +kernel)
  | str _ => exact kit_ty (K := K) (a := "str") (b := "bool") (r := false) (by decide +kernel)
  | list _ => exact kit_ty (K := K) (a := "list") (b := "bool") (r := false) (by decide +kernel)
  | tuple _ => exact kit_ty (K := K) (a := "tuple") (b := "bool") (r := false) (by decide +kernel)
  | dict _ => exact kit_ty (K := K) (a := "dict") (b := "bool") (r := false) (by decide +kernel)
theorem kit_str : PySem.W.kitOne K (.type (tyName d)) (.type "str") = some (strB d) := by
  cases d with
  | none => exact kit_ty (K := K) (a := "NoneType") (b := "str") (r := false) (by decide +kernel)
  | bool _ => exact kit_ty (K := K) (a := "bool") (b := "str") (r := false) (by decide +kernel)
  | int _ => exact kit_ty (K := K) (a := "int") (b := "str") (r := false) (by decide +kernel)
  | str _ => exact kit_ty (K := K) (a := "str") (b := "str") (r := true) (by decide +kernel)
  | list _ => exact kit_ty (K := K) (a := "list") (b := "str") (r := false) (by decide +kernel)
  | tuple _ => exact kit_ty (K := K) (a := "tuple") (b := "str") (r := false) (by decide +kernel)
  | dict _ => exact kit_ty (K := K) (a := "dict") (b := "str") (r := false) (by decide +kernel)
end
end Kn


/-! Kn: a comprehension with a filter over a tuple; a text among texts. -/
namespace Kn
open PySem PySem.Spec PyProof.Rows L2
theorem lc_pickT {K : PySem.W.Frag} {a : Addr} {xs : List V} {slot : Nat} {te tl : TE} {tt : TT} {vs : List Nat} {σ : L2.St} {H : Hp} {Q : VK} (ys : List (Bool × V)) (hl : ys.length = xs.length) (hs : xs.length ≤ 1000) (hT : SqT K H a xs)
    (htl : ∀ R : VK, R (.ref a) H → tl σ H R) (w : ∀ v, wipe ((wipe σ vs).set slot (some v)) vs = wipe σ vs)
    (test : ∀ (i : Nat) (x : V) (b : Bool) (y : V) (G : Hp) (R : Bool → Hp → Prop), xs[i]? = some x → ys[i]? = some (b, y) → Same H G → R b G → tt ((wipe σ vs).set slot (some x)) G R)
    (turn : ∀ (i : Nat) (x : V) (b : Bool) (y : V) (G : Hp) (R : VK), xs[i]? = some x → ys[i]? = some (b, y) → Same H G → R y G → te ((wipe σ vs).set slot (some x)) G R)
    (done : ∀ (D : Addr) (G : Hp), H D = none → Same H G → G D = some (.lst ((ys.filter (·.1)).map (·.2))) → Q (.ref D) G) : tLc (iTup K tl) (gName slot) tt te vs σ H Q := by
  refine htl _ ⟨a, rfl, ⟨xs, hT⟩, fun D nD => ?_⟩
  refine lc_tup (K := K) (a := a) (xs := xs) (fun i G => Same H G ∧ G D = some (.lst (((ys.take i).filter (·.1)).map (·.2)))) ⟨same_new nD, upd_same⟩ (fun i G _ h => tupS h.1 hT) ?_ ?_
  · rintro i x G hx ⟨sm, hD⟩
    have hi : i < xs.length := (List.getElem?_eq_some_iff.mp hx).1
    have hy : ys[i]? = some (ys[i]'(by omega)) := List.getElem?_eq_getElem (by omega)
    have et : ys.take (i + 1) = ys.take i ++ [ys[i]'(by omega)] := by
      rw [List.take_add_one, hy]
      rfl
    refine ⟨w x, ?_⟩
    generalize ys[i]'(by omega) = by_ at hy et
    obtain ⟨b, y⟩ := by_
    refine test i x b y G _ hx hy sm ?_
    cases b
    · refine iteF ⟨sm, ?_⟩
      rw [hD, et, List.filter_append]
      simp
    · refine iteT (turn i x true y G _ hx hy sm ⟨_, hD, ?_, putS sm nD, ?_⟩)
      · rw [List.length_map]
        have := List.length_filter_le (·.1) (ys.take i)
        rw [List.length_take] at this
        exact small' (by omega)
      · rw [upd_same, et, List.filter_append, List.map_append]
        rfl
  · rintro G ⟨sm, hD⟩
    refine done D G nD sm ?_
    rw [hD, List.take_of_length_le (by omega)]
theorem inV_strs (n : Str) : ∀ t : List Str, inV (.str n) (t.map V.str) = decide (n ∈ t)
  | [] => by
    symm
    simp [inV]
  | a :: r => by
    have ih := inV_strs n r
    show ((a == n) || inV (.str n) (r.map V.str)) = _
    rw [ih]
    by_cases h : a = n
    · simp [h]
    · have h2 : ¬ n = a := fun z => h z.symm
      simp [h, h2]
theorem flat_strs (t : List Str) : (t.map V.str).all flatV = true := by
  simp [flatV]
end Kn


/-! Kn: any data asked for among the texts of a tuple. -/
namespace Kn
open PySem PySem.Spec PyProof.Rows L2
def hasT (ts : List Str) (d : PyData) : Bool := ts.any fun t => PyData.eqv (.str t) d
def rInT (K : PySem.W.Frag) : R2 := fun x y H Q => ∃ (a : Addr) (d : PyData) (ts : List Str), y = .ref a ∧ SqT K H a (ts.map V.str) ∧ Dp K H x d ∧ SeqAt.shaped d = true ∧ (∀ t ∈ ts, SeqAt.shaped (.str t) = true) ∧ Q (.bl (hasT ts d)) H
def rOutT (K : PySem.W.Frag) : R2 := fun x y H Q => ∃ (a : Addr) (d : PyData) (ts : List Str), y = .ref a ∧ SqT K H a (ts.map V.str) ∧ Dp K H x d ∧ SeqAt.shaped d = true ∧ (∀ t ∈ ts, SeqAt.shaped (.str t) = true) ∧ Q (.bl (!hasT ts d)) H
theorem lay_texts : ∀ ts : List Str, (∀ t ∈ ts, SeqAt.shaped (.str t) = true) → PyData.canLayAll0 (ts.map PyData.str) = true ∧ PyData.depthAll (ts.map PyData.str) = 0
  | [], _ => ⟨rfl, rfl⟩
  | t :: r, h => by
    obtain ⟨a, b⟩ := lay_texts r fun x m => h x (List.mem_cons_of_mem _ m)
    have q := SeqAt.canLay_of_shaped (h t (List.mem_cons_self ..))
    refine ⟨?_, ?_⟩
    · show (PyData.canLay0 (.str t) && PyData.canLayAll0 (r.map PyData.str)) = true
      rw [q, a]
      rfl
    · show max (PyData.depth (.str t)) (PyData.depthAll (r.map PyData.str)) = 0
      rw [b]
      rfl
theorem dp_texts {K : PySem.W.Frag} {H : Hp} : ∀ ts : List Str, DpAll K H (ts.map V.str) (ts.map PyData.str)
  | [] => .nil
  | t :: r => .cons (.str t) (dp_texts r)
section
variable {X : Cx}
theorem any_texts (ts : List Str) (d : PyData) : ((ts.map PyData.str).any fun y => PyData.eqv y d) = hasT ts d := by
  rw [List.any_map]
  rfl
theorem op_inT (hu : X.A.units + 64 < cLine) : OpR X (compareOp .In) (rInT X.K) := by
  intro pins s σ H x y v u Q I rx ry h
  obtain ⟨a, d, ts, rfl, ht, hd, sd, st, q⟩ := h
  obtain ⟨lay, dep⟩ := lay_texts ts st
  obtain ⟨as, r1⟩ := Dp.reads I d x v hd rx
  obtain ⟨bs, r2⟩ := Dp.reads I (.tuple (ts.map PyData.str)) (.ref a) u (.tup ht (dp_texts ts)) ry
  cases r2 with
  | tuple h1 h2 h3 h4 =>
    refine SeqAt.in_tupleAt _ ⟨_, h1, h2, _, h3⟩ (SeqAt.items_eqAt h4 r1 lay (SeqAt.canLay_of_shaped sd) (by rw [dep, Nat.zero_min]; omega)) ?_
    rw [SeqAt.any_by_data h4 lay, any_texts]
    exact ⟨.bl _, H, I, rfl, q⟩
theorem op_notInT (hu : X.A.units + 64 < cLine) : OpR X (compareOp .NotIn) (rOutT X.K) := by
  intro pins s σ H x y v u Q I rx ry h
  obtain ⟨a, d, ts, rfl, ht, hd, sd, st, q⟩ := h
  obtain ⟨lay, dep⟩ := lay_texts ts st
  obtain ⟨as, r1⟩ := Dp.reads I d x v hd rx
  obtain ⟨bs, r2⟩ := Dp.reads I (.tuple (ts.map PyData.str)) (.ref a) u (.tup ht (dp_texts ts)) ry
  cases r2 with
  | tuple h1 h2 h3 h4 =>
    refine SeqAt.notIn_tupleAt _ ⟨_, h1, h2, _, h3⟩ (SeqAt.items_eqAt h4 r1 lay (SeqAt.canLay_of_shaped sd) (by rw [dep, Nat.zero_min]; omega)) ?_
    rw [SeqAt.any_by_data h4 lay, any_texts]
    exact ⟨.bl _, H, I, rfl, q⟩
end
theorem hasT_str (ts : List Str) (m : Str) : hasT ts (.str m) = decide (m ∈ ts) := by
  unfold hasT
  induction ts with
  | nil => simp
  | cons t r ih =>
    rw [List.any_cons, ih]
    show ((t == m) || decide (m ∈ r)) = decide (m ∈ t :: r)
    by_cases e : t = m
    · subst e
      simp
    · have e2 : ¬ m = t := fun z => e z.symm
      simp [e, e2]
theorem hasT_true {ts : List Str} {d : PyData} (h : hasT ts d = true) : ∃ m, d = .str m ∧ m ∈ ts := by
  obtain ⟨t, m, e⟩ := List.any_eq_true.mp h
  cases d with
  | str x =>
    have e : (t == x) = true := e
    exact ⟨x, rfl, by rw [← beq_iff_eq.mp e]; exact m⟩
  | none => cases e
  | bool b => cases e
  | int n => cases e
  | list l => cases e
  | tuple l => cases e
  | dict l => cases e
end Kn


namespace Kn
open PySem PySem.Spec PyProof.Rows L2
/-! ### a set of texts -/
/-- the text of an entry -/
def txt (e : Int × Value) : Str := match e.2 with
  | .str x _ => x
  | _ => Str.empty
def TxtE (w : World) (e : Int × Value) : Prop := ∃ (x : Str) (u : Tok), e.2 = .str x u ∧ e.1 = hashStr w x
/-- at a stands a set with the members L, no two alike -/
structure TxtSet (w : World) (h : Heap) (a : Addr) (L : List Str) : Prop where
  ex : ∃ (o : Obj) (es : Array (Int × Value)) (ep : Nat) (t : SetTable), h.get? a = some o ∧ o.ExactSet ∧ o.data = .set es ep t ∧ (∀ e ∈ es.toList, TxtE w e) ∧
    (es.toList.map txt).Perm L ∧ t.fits es.size = true ∧ Ris t.place.toList ∧ (w.params.followText "set-order" = true ∨ t.led = true)
  nd : L.Nodup
  few : L.length < scanBound
def addT (x : Str) (L : List Str) : List Str := if x ∈ L then L else x :: L
theorem mem_addT {x y : Str} {L : List Str} : y ∈ addT x L ↔ y = x ∨ y ∈ L := by
  unfold addT
  split
  · rename_i m
    exact ⟨.inr, fun z => z.elim (fun q => q ▸ m) id⟩
  · exact List.mem_cons
theorem len_addT (x : Str) (L : List Str) : (addT x L).length ≤ L.length + 1 := by
  unfold addT
  split
  · omega
  · exact Nat.le_refl _
theorem nodup_addT {x : Str} {L : List Str} (h : L.Nodup) : (addT x L).Nodup := by
  unfold addT
  split
  · exact h
  · rename_i m
    exact List.nodup_cons.mpr ⟨m, h⟩
section
variable {P : Program} {w : World} {A : Around} {E : Value → Shared → Prop} {s : Shared} {a : Addr} {L : List Str}
theorem TxtSet.move {h h' : Heap} (R : TxtSet w h a L) (k : ∀ o, h.get? a = some o → h'.get? a = some o) : TxtSet w h' a L := by
  obtain ⟨⟨o, es, ep, t, ho, z⟩, n, f⟩ := R
  exact ⟨⟨o, es, ep, t, k o ho, z⟩, n, f⟩
theorem txt_elems {l : List (Int × Value)} (g : ∀ e ∈ l, TxtE w e) : ElemsOf (PySem.strKind P w) l := by
  intro e m
  obtain ⟨x, u, e1, e2⟩ := g e m
  rw [e1]
  exact ⟨⟨x, strKind_is P w x u, e2⟩, rfl⟩
theorem txt_is {e : Int × Value} (g : TxtE w e) (x : Str) : (PySem.strKind P w).is x e.2 = true ↔ txt e = x := by
  obtain ⟨y, u, e1, _⟩ := g
  unfold txt
  rw [e1]
  constructor
  · intro z
    obtain ⟨u', e'⟩ := Value.isStrOf_shape (x := x) (v := .str y u) z
    cases e'
    rfl
  · rintro rfl
    exact strKind_is P w _ u
theorem len_es {es : Array (Int × Value)} (p : (es.toList.map txt).Perm L) : es.size = L.length := by
  have q := p.length_eq
  rw [List.length_map, Array.length_toList] at q
  exact q
/-- the end of an addition: the table is stored, and laid out anew where it got too full -/
theorem txt_store {gv : Bool → Sem Unit} (free : ∀ (b : Bool) (s1 : Shared) (W : Unit → Shared → Prop), W () s1 → wpAny (model P w) A (gv b) W E s1)
    {o : Obj} {es es1 : Array (Int × Value)} {ep : Nat} {t t2 : SetTable} {L1 : List Str} (ho : s.heap.get? a = some o) (hx : o.ExactSet) (hd : o.data = .set es ep t)
    (g1 : ∀ e ∈ es1.toList, TxtE w e) (p1 : (es1.toList.map txt).Perm L1) (nd : L1.Nodup) (few : L1.length < scanBound) (f2 : t2.fits es1.size = true) (r2 : Ris t2.place.toList)
    (l2 : w.params.followText "set-order" = true ∨ t2.led = true) {dm : Bool} {R : Option Bool → Shared → Prop} (out : ∀ h', Heap.SameBut a s.heap h' → TxtSet w h' a L1 → R (some true) { s with heap := h' }) :
    wpAny (model P w) A (do
      storeSet a es1 t2
      if (!dm && t2.tooFull) = true then do
        gv (relayAll t2 es1 (SetTable.grown es1.size)).2.2
        storeSet a (relayAll t2 es1 (SetTable.grown es1.size)).1 (relayAll t2 es1 (SetTable.grown es1.size)).2.1
        pure (some true)
      else pure (some true)) R E s := by
  have b1 : es1.size < scanBound := by rw [len_es p1]; exact few
  refine wpAny_bind (wpAny_storeSet_of ho hd ?_ (fits_of_scanBound b1))
  have o1 := store_at (es' := es1) (t' := t2) ho hd
  have same1 := Heap.SameBut.update s.heap a (Obj.putSet es1 t2)
  split
  · have q1 := relayAll_perm t2 es1 (SetTable.grown es1.size)
    have q2 := relayAll_fits t2 es1 (SetTable.grown es1.size)
    have q3 := relayAll_ris t2 es1 (SetTable.grown es1.size)
    have q4 := relayAll_led t2 es1 (SetTable.grown es1.size)
    revert q1 q2 q3 q4
    generalize relayAll t2 es1 (SetTable.grown es1.size) = Y
    rcases Y with ⟨es2, t3, gave⟩
    intro q1 q2 q3 q4
    dsimp only at q1 q2 q3 q4 ⊢
    have p2 : (es2.toList.map txt).Perm L1 := (q1.map txt).trans p1
    have b2 : es2.size < scanBound := by rw [len_es p2]; exact few
    refine wpAny_bind (free _ _ _ (wpAny_bind (wpAny_storeSet_of o1 rfl ?_ (fits_of_scanBound b2))))
    refine wpAny_pure (out _ (same1.trans (Heap.SameBut.update _ a _)) ⟨⟨_, es2, _, t3, store_at (es' := es2) (t' := t3) o1 rfl, hx, rfl, fun e m => g1 e (q1.mem_iff.mp m), p2, q2, q3, ?_⟩, nd, few⟩)
    exact l2.imp id fun z => by rw [q4]; exact z
  · exact wpAny_pure (out _ same1 ⟨⟨_, es1, _, t2, o1, hx, rfl, g1, p1, f2, r2, l2⟩, nd, few⟩)
theorem txt_add {x : Str} {u : Tok} {Q : Bool → Shared → Prop} (R : TxtSet w s.heap a L) (room : L.length + 1 < scanBound)
    (hQ : ∀ h' b, Heap.SameBut a s.heap h' → TxtSet w h' a (addT x L) → Q b { s with heap := h' }) : wpAny (model P w) A (setAddHashed a (.str x u) (hashStr w x)) Q E s := by
  obtain ⟨⟨o, es, ep, t, ho, hx, hd, g, p, f, r, l⟩, nd, few⟩ := R
  have el : ElemsOf (PySem.strKind P w) es.toList := txt_elems g
  have b0 : es.size < scanBound := by rw [len_es p]; exact few
  show wpAny (model P w) A (setAddHashed a (.str x u) ((PySem.strKind P w).hash x)) Q E s
  unfold setAddHashed setAddHashedIn
  refine wpAny_holding (wpAny_bind (wpAny_setState_of ho hd f ?_))
  dsimp only
  rw [byScan_of (show (Value.str x u).scannable = true from rfl) b0 el]
  simp only [↓reduceIte]
  unfold setAddByScan
  refine wpAny_bind (wpAny_bind (wpAny_rule (wpAny_bind (wpAny_setScan_of (strKind_is P w x u) ho hd f el ?_))))
  cases fi : List.findIdx? (fun e => (PySem.strKind P w).is x e.2) es.toList with
  | some j =>
    dsimp only
    obtain ⟨lt, at_, _⟩ := List.findIdx?_eq_some_iff_getElem.mp fi
    have m : x ∈ L := p.mem_iff.mp (List.mem_map.mpr ⟨_, List.getElem_mem lt, (txt_is (g _ (List.getElem_mem lt)) x).mp at_⟩)
    have same : addT x L = L := if_pos m
    refine wpAny_pure (wpAny_pure (hQ s.heap _ (Heap.SameBut.refl a s.heap) ?_))
    rw [same]
    exact ⟨⟨o, es, ep, t, ho, hx, hd, g, p, f, r, l⟩, nd, few⟩
  | none =>
    dsimp only
    have nm : x ∉ L := fun z => by
      obtain ⟨e, m, q⟩ := List.mem_map.mp (p.mem_iff.mpr z)
      exact absurd ((txt_is (P := P) (g e m) x).mpr q) (by rw [List.findIdx?_eq_none_iff.mp fi e m]; decide)
    have more : addT x L = x :: L := if_neg nm
    have gw : ∀ (b : Bool) {s1 : Shared} {W : Unit → Shared → Prop}, W () s1 → wpAny (model P w) A (match b with | true => rule "set.scan.the-table-gave-way" | false => pure ()) W E s1 := by
      intro b s1 W q
      cases b
      · exact wpAny_pure q
      · exact wpAny_rule q
    have q1 := layNew_perm t es ((PySem.strKind P w).hash x) (.str x u)
    have q2 := layNew_fits t es ((PySem.strKind P w).hash x) (.str x u)
    have q3 := layNew_ris t es ((PySem.strKind P w).hash x) (.str x u) r
    have q4 := layNew_led t es ((PySem.strKind P w).hash x) (.str x u)
    revert q1 q2 q3 q4
    generalize layNew t es ((PySem.strKind P w).hash x) (.str x u) = Y
    rcases Y with ⟨es1, t1, dm, gave⟩
    intro q1 q2 q3 q4
    dsimp only at q1 q2 q3 q4 ⊢
    rw [Array.toList_push] at q1
    have c : es1.toList.Perm (((PySem.strKind P w).hash x, Value.str x u) :: es.toList) := q1.trans (List.perm_append_singleton _ _)
    have g1 : ∀ e ∈ es1.toList, TxtE w e := by
      intro e m
      rcases List.mem_cons.mp (c.mem_iff.mp m) with rfl | m
      · exact ⟨x, u, rfl, rfl⟩
      · exact g e m
    have p1 : (es1.toList.map txt).Perm (addT x L) := by
      rw [more]
      exact (c.map txt).trans (p.cons x)
    have few1 : (addT x L).length < scanBound := Nat.lt_of_le_of_lt (len_addT x L) room
    have l1 : w.params.followText "set-order" = true ∨ t1.led = true := l.imp id fun z => by rw [q4]; exact z
    have fin : ∀ h', Heap.SameBut a s.heap h' → TxtSet w h' a (addT x L) → wpAny (model P w) A (pure true) Q E { s with heap := h' } := fun h' k r => wpAny_pure (hQ h' _ k r)
    refine wpAny_bind (gw _ ?_)
    split
    · refine wpAny_bind ?_
      rw [hashByValue_scannable 8 (show (Value.str x u).scannable = true from rfl)]
      refine wpAny_pure (txt_store (fun b s1 W q => gw b q) ho hx hd g1 p1 (nodup_addT nd) few1 ?_ ?_ ?_ fun h' k r => ?_)
      · first | exact q2 | (split <;> first | exact q2 | exact SetTable.fits_plain_off q2)
      · first | exact q3 | (split <;> exact q3)
      · first | exact l1 | (split <;> exact l1)
      · exact fin h' k r
    · refine wpAny_bind (wpAny_pure ?_)
      simp only [↓reduceIte]
      refine txt_store (fun b s1 W q => gw b q) ho hx hd g1 p1 (nodup_addT nd) few1 q2 q3 l1 fun h' k r => ?_
      exact fin h' k r
end
end Kn


namespace Kn
open PySem PySem.Spec PyProof.Rows L2
/-- what stands in a set behind these texts, one after another -/
def gathered (xs : List Str) : List Str := xs.foldl (fun L x => addT x L) []
theorem gathered_snoc (xs : List Str) (x : Str) : gathered (xs ++ [x]) = addT x (gathered xs) := by
  unfold gathered
  rw [List.foldl_append]
  rfl
theorem gathered_ind {R : List Str → List Str → Prop} (h0 : R [] []) (h1 : ∀ xs L x, R xs L → R (xs ++ [x]) (addT x L)) (xs : List Str) : R xs (gathered xs) := by
  have all : ∀ n (xs : List Str), xs.length = n → R xs (gathered xs) := by
    intro n
    induction n with
    | zero => intro xs h; rw [List.eq_nil_of_length_eq_zero h]; exact h0
    | succ n ih =>
      intro xs h
      have ne : xs ≠ [] := by rintro rfl; cases h
      rw [← List.dropLast_concat_getLast ne, gathered_snoc]
      exact h1 _ _ _ (ih _ (by rw [List.length_dropLast, h]; rfl))
  exact all _ xs rfl
theorem mem_gathered {xs : List Str} {y : Str} : y ∈ gathered xs ↔ y ∈ xs :=
  gathered_ind (R := fun xs L => y ∈ L ↔ y ∈ xs) Iff.rfl (fun xs L x h => by rw [mem_addT, h, List.mem_append, List.mem_singleton]; exact Or.comm) xs
theorem nodup_gathered (xs : List Str) : (gathered xs).Nodup := gathered_ind (R := fun _ L => L.Nodup) List.nodup_nil (fun _ _ _ h => nodup_addT h) xs
theorem len_gathered (xs : List Str) : (gathered xs).length ≤ xs.length :=
  gathered_ind (R := fun xs L => L.length ≤ xs.length) (Nat.le_refl _) (fun xs L x h => by have := len_addT x L; rw [List.length_append]; show _ ≤ xs.length + 1; omega) xs
theorem txt_fresh {w : World} {h : Heap} {a : Addr} (ho : h.get? a = some { cls := .type "set", dict := none, data := .set #[] 0 (.fresh 0 0 (!w.params.followText "set-order")) }) : TxtSet w h a [] := by
  refine ⟨⟨_, #[], 0, _, ho, ⟨rfl, rfl, rfl⟩, rfl, fun e m => ?_, List.Perm.refl _, rfl, List.Pairwise.nil, ?_⟩, List.nodup_nil, by decide⟩
  · cases m
  · cases hq : w.params.followText "set-order" with
    | true => exact .inl rfl
    | false => exact .inr rfl
section
variable {P : Program} {w : World} {A : Around} {E : Value → Shared → Prop} {s : Shared}
/-- set.update's loop over anything that yields texts -/
theorem txt_loop {I : Addr} {fp wr : List Addr} {G : Array GenState → Array GenState → Prop} {n : Nat} {Pv : Nat → Value → Prop} {St : Nat → Shared → Prop} {R : Result → Shared → Prop} (W : WalksS P w A.in1 I fp wr G n Pv St) (a : Addr) (out : a ∉ fp)
    (xs : List Str) (hn : xs.length = n) (room : n + 1 < scanBound) (val : ∀ i v, Pv i v → ∃ x u, xs[i]? = some x ∧ v = .str x u) :
    ∀ (k i : Nat) (s : Shared), n - i = k → i ≤ n → St i s → TxtSet w s.heap a (gathered (xs.take i)) → (∀ s', Moved (a :: wr) G s s' → TxtSet w s'.heap a (gathered xs) → R (.ok (.ret .none)) s') →
      codeAny (model P w) A (.builtin "set.update.loop" ⟨[.ref a, .ref I], []⟩) R s := by
  have ow : a ∉ wr := fun z => out (W.sub _ z)
  have wider : ∀ b ∈ wr, b ∈ a :: wr := fun b m => List.mem_cons_of_mem _ m
  intro k
  induction k with
  | zero =>
    intro i s hk hi st T fin
    obtain rfl : i = n := by omega
    refine codeAny_builtin PyProof.Rows.F.entry_set_update_loop ?_
    rw [Around.under_plainId PyProof.Rows.F.plain_set_update_loop _]
    show wpAny (model P w) A.in1 (pyNext (.ref I) >>= _) _ _ s
    refine wpAny_bind (W.done s _ _ st fun s' mv => ?_)
    show wpAny (model P w) A.in1 (ret Value.none) _ _ s'
    rw [List.take_of_length_le (by omega)] at T
    exact wpAny_pure (fin s' (mv.mono wider) (T.move fun o e => mv.heap a o ow e))
  | succ k ih =>
    intro i s hk hi st T fin
    have lt : i < n := by omega
    refine codeAny_builtin PyProof.Rows.F.entry_set_update_loop ?_
    rw [Around.under_plainId PyProof.Rows.F.plain_set_update_loop _]
    show wpAny (model P w) A.in1 (pyNext (.ref I) >>= _) _ _ s
    refine wpAny_bind (W.item i s _ _ lt st fun v s' hv st' mv => ?_)
    obtain ⟨x, u, hx, rfl⟩ := val i v hv
    have T' := T.move fun o e => mv.heap a o ow e
    show wpAny (model P w) A.in1 (holding [Value.str x u] (setAdd a (.str x u)) >>= _) _ _ s'
    refine wpAny_bind (wpAny_holding ?_)
    unfold setAdd
    have lr := len_gathered (xs.take i)
    have lt2 : (xs.take i).length ≤ i := by rw [List.length_take]; omega
    refine wpAny_holding (wpAny_bind ((PySem.strKind P w).pyHash (k := x) (strKind_is _ _ _ _) (txt_add (s := { s' with toks := s'.toks + 1 }) T' (by omega) fun h' b same T2 => ?_)))
    rw [← gathered_snoc] at T2
    have tk : xs.take i ++ [x] = xs.take (i + 1) := by rw [List.take_add_one, hx]; rfl
    rw [tk] at T2
    have stay : ∀ b o, b ≠ a → s'.heap.get? b = some o → h'.get? b = some o := fun b o z e => (same.2 b z).trans e
    refine wpAny_pure ⟨plainId_quiet PyProof.Rows.F.plain_set_update_loop _, ih (i + 1) _ (by omega) lt (W.frame _ s' _ _ st' (Nat.le_succ _) fun b m o e => stay b o (fun z => out (z ▸ m)) e) T2 fun s'' mv2 T3 => ?_⟩
    exact fin s'' (Moved.trans W.gtrans ((mv.mono wider).then_heap (Nat.le_succ _) fun b o m e => stay b o (fun z => m (z ▸ List.mem_cons_self ..)) e) mv2) T3
end
end Kn


namespace Kn
open PySem PySem.Spec PyProof.Rows L2
abbrev setObj0 (w : World) : Obj := { cls := .type "set", dict := none, data := .set #[] 0 (.fresh 0 0 (!w.params.followText "set-order")) }
section
variable {P : Program} {w : World} {A : Around} {E : Value → Shared → Prop} {s : Shared}
/-- set(xs) of a list of texts -/
theorem txt_set {l : Addr} {its : Array Value} (xs : List Str) {Q : Value → Shared → Prop} (hh : A.handled = none) (hl : s.heap.IsList l its) (vs : StrsAre its.toList xs) (room : xs.length + 1 < scanBound)
    (q : ∀ (h' : Heap) (tk : Nat), TxtSet w h' s.heap.objs.size (gathered xs) → (∀ b o, s.heap.get? b = some o → h'.get? b = some o) → Q (.ref s.heap.objs.size) { s with heap := h', toks := tk }) :
    wpAny (model P w) A (call (.type "set") [.ref l]) Q E s := by
  have sz : xs.length = its.size := by rw [← StrsAre.len_eq vs, Array.length_toList]
  obtain ⟨cl, tl, hmro⟩ := PySem.F.called_set.mro
  have k1 := PySem.F.called_set.made
  have k2 := PySem.F.called_set.sub
  have k3 := PySem.F.called_set.notType
  have k4 := PySem.F.called_set.canCreate
  have k5 := PySem.F.typeCall_set_1 (.ref l)
  refine wpAny_call (codeAny_of_tree ?_)
  show wpAny _ _ (callAny (.type "set") _) _ _ _
  refine wpAny_pure ⟨Code.quiet_builtin _ (by decide +kernel), codeAny_builtin PySem.F.entry_type_call ?_⟩
  rw [Around.under_plain (weight_type_call_type "set" [.ref l] []) rfl]
  repeat (any_goals (first | assumption | wp_step))
  refine codeAny_mono (code_set_led1 (.ref l) (E := E) (Q₁ := fun v s1 => v = .ref s.heap.objs.size ∧ s1 = { s with heap := s.heap.push (setObj0 w) }) ⟨rfl, rfl⟩) fun r s1 hr => ?_
  rcases r with e | fl
  · exact hr
  cases fl with
  | brk => exact hr.elim
  | cont => exact hr.elim
  | next => exact hr.elim
  | ret v =>
    obtain ⟨rfl, rfl⟩ := hr
    have at0 : (s.heap.push (setObj0 w)).get? s.heap.objs.size = some (setObj0 w) := Heap.get?_push_size _ rfl
    have ty0 : Shared.TypeIs { s with heap := s.heap.push (setObj0 w) } (.ref s.heap.objs.size) "set" := ⟨_, at0, rfl⟩
    have k6 := PySem.F.called_set.init.lookup
    have k7 := PySem.F.called_set.init.bind (.ref s.heap.objs.size)
    repeat (any_goals (first | assumption | wp_step))
    refine codeAny_mono (codeAny_call_builtin (R := wants (fun r s2 => r = .none ∧ ∃ h' tk, s2 = { s with heap := h', toks := tk } ∧ TxtSet w h' s.heap.objs.size (gathered xs) ∧ ∀ b o, s.heap.get? b = some o → h'.get? b = some o) E)
      PySem.F.called_set.init.plain PySem.F.entry_set_init (check_set_init_1 ty0 ?_)) fun r2 s2 hr2 => ?_
    · obtain ⟨⟨oc, od, oda, osl⟩, ho, hc, nl, hd⟩ := hl
      simp only at hc hd
      subst hc; subst hd
      have ho' : (s.heap.push (setObj0 w)).get? l = some { cls := .type "list", dict := od, data := .seq its nl, slots := osl } := Heap.get?_push_of_some _ ho
      have hl' : (s.heap.push (setObj0 w)).IsList l its := ⟨_, ho', rfl, nl, rfl⟩
      have j1 := PySem.F.sub_list_set
      have j2 := PySem.F.sub_list_frozenset
      have j3 : (Value.type "list" == Value.type "dict") = false := by decide
      unfold Builtin.«set.__init__» noKeywords Builtin.Frozenset.updateFrom
      generalize hPI : pyIter = PI
      wp_walk
      subst hPI
      have lS : l < s.heap.objs.size := Heap.lt_size ho
      have z1 : (s.heap.push (setObj0 w)).objs.size = s.heap.objs.size + 1 := Heap.size_push ..
      have nI : l ≠ (s.heap.push (setObj0 w)).objs.size := by rw [z1]; exact Nat.ne_of_lt (Nat.lt_succ_of_lt lS)
      have nS : s.heap.objs.size ∉ [(s.heap.push (setObj0 w)).objs.size, l] := by
        rw [z1]
        intro m
        simp only [List.mem_cons, List.not_mem_nil, or_false] at m
        rcases m with m | m
        · exact absurd m (Nat.ne_of_lt (Nat.lt_succ_self _))
        · exact absurd m.symm (Nat.ne_of_lt lS)
      have h3 : A.in1.in1.in1.handled = none := by simp [hh]
      refine wpAny_pyIter_list hl' (wpAny_bind (wpAny_runValue ?_))
      refine txt_loop ((Walks.list h3 _ l nI its).toS) s.heap.objs.size nS xs sz (by omega) (fun i v hv => ?_) (its.size - 0) 0 _ (by omega) (Nat.zero_le _) ⟨⟨_, Heap.get?_push_size _ rfl, rfl, rfl⟩, hl'.push _⟩ ?_ ?_
      · have lt : i < xs.length := by rw [sz]; exact (Array.getElem?_eq_some_iff.mp hv).1
        obtain ⟨u, e⟩ := SS.strs_at vs i v (by rw [Array.getElem?_toList]; exact hv)
        refine ⟨xs[i], u, List.getElem?_eq_getElem lt, ?_⟩
        rw [e, List.getD_eq_getElem?_getD, List.getElem?_eq_getElem lt]
        rfl
      · exact txt_fresh (Heap.get?_push_of_some _ at0)
      · intro s' mv T
        obtain ⟨h', g2, d', tk', os'⟩ := s'
        have e1 : g2 = s.gens := mv.gens
        have e2 : d' = s.drawn := mv.drawn
        have e3 : os' = s.os := mv.os
        subst e1; subst e2; subst e3
        show wpAny _ _ _ _ _ _
        refine wpAny_pure ?_
        show wpAny _ _ (ret Value.none) _ _ _
        refine wpAny_pure ⟨rfl, h', tk', rfl, T, fun b o e => ?_⟩
        have lb : b < s.heap.objs.size := Heap.lt_size e
        refine mv.heap b o (fun m => ?_) (Heap.get?_push_of_some _ (Heap.get?_push_of_some _ e))
        rcases List.mem_cons.mp m with m | m
        · exact absurd m (Nat.ne_of_lt lb)
        · rw [List.mem_singleton, z1] at m
          exact absurd m (Nat.ne_of_lt (Nat.lt_succ_of_lt lb))
    · rcases r2 with e | fl2
      · exact hr2
      cases fl2 with
      | brk => exact hr2.elim
      | cont => exact hr2.elim
      | next => exact hr2.elim
      | ret v =>
        obtain ⟨rfl, h', tk, rfl, T, keep⟩ := hr2
        repeat (any_goals (first | assumption | wp_step))
        exact q _ _ T keep
/-- sorted of such a set -/
theorem txt_sorted {a : Addr} {L : List Str} {Q : Value → Shared → Prop} (R : TxtSet w s.heap a L) (hh : A.handled = none) (few : L.length < 64)
    (q : ∀ s' p (out : Array Value) (c : Nat) (ys : List Str), (∀ b o, s.heap.get? b = some o → s'.heap.get? b = some o) → s'.gens = s.gens → s'.os = s.os → s.heap.objs.size ≤ p →
      s'.heap.get? p = some (seqObj "list" out c) → StrsAre out.toList ys → ys.Perm L → sortedS ys = true → Q (.ref p) s') :
    wpAny (model P w) A (call (.builtin "sorted") [.ref a]) Q E s := by
  obtain ⟨⟨o, es, ep, t, ho, hx, hd, g, p, f, r, l⟩, nd, _⟩ := R
  have b0 : es.size < scanBound := by rw [len_es p]; exact Nat.lt_trans few (by decide)
  refine Calls.call_function_entry PyProof.Rows.kind_sorted PyProof.Rows.plain_sorted PyProof.Rows.entry_sorted (PyProof.Rows.args_sorted1 _) ?_
  unfold Builtin.«sorted»
  refine wpAny_bind (m := checkCount "sorted" 1 1 _) (wpAny_pure (wpAny_bind (collect_set (A := A.in1) hh ⟨o, ho, hx.1, hd⟩ f b0 r l fun s1 vs k1 hz g1 o1 pm => ?_)))
  have lv : vs.length = L.length := by rw [pm.length_eq, List.length_map, Array.length_toList]; exact len_es p
  obtain ⟨ts, hts, pt⟩ : ∃ ts : List Str, StrsAre vs ts ∧ ts.Perm L := by
    have all : ∀ us : List Value, (∀ v ∈ us, ∃ x u, v = .str x u) → StrsAre us (us.map fun v => txt (0, v)) := by
      intro us
      induction us with
      | nil => exact fun _ => .nil
      | cons v us ih =>
        intro h
        obtain ⟨x, u, rfl⟩ := h v (List.mem_cons_self ..)
        exact .cons x u (ih fun y m => h y (List.mem_cons_of_mem _ m))
    refine ⟨_, all vs fun v m => ?_, ((pm.map fun v => txt (0, v)).trans ?_).trans p⟩
    · obtain ⟨e, me, q⟩ := List.mem_map.mp (pm.mem_iff.mp m)
      obtain ⟨x, u, h1, _⟩ := g e me
      exact ⟨x, u, by rw [← q]; exact h1⟩
    · rw [List.map_map]
      exact List.Perm.refl _
  refine wpAny_bind (wpAny_newList ?_ (by rw [lv, sizeLine_eq]; omega))
  have hoL : (s1.heap.push (seqObj "list" vs.toArray 0)).get? s1.heap.objs.size = some (seqObj "list" vs.toArray 0) := Heap.get?_push_size _ rfl
  refine wpAny_bind (wpAny_holding (wpAny_call_entry PyProof.Rows.slot_list_sort ⟨_, hoL, rfl⟩ PyProof.Rows.entry_list_sort
    (list_sort_treeK strKind_oneLt hoL hts.keysOf (fun v1 v2 rest e => keyKind_strs (by rw [← e]; exact hts)) (by rw [lv]; exact few) fun st hp hs => ⟨_, rfl, ?_⟩) (PyProof.Rows.args_list_sort _)))
  obtain ⟨ys, y1, y2, y3⟩ := sorted_out_str hts hp hs
  obtain ⟨c, hc⟩ := PyProof.Rows.sortedHeap_at (vs := vs) (out := (arrOf st).map (·.2)) hoL
  refine wpAny_pure ⟨_, rfl, q _ s1.heap.objs.size ((arrOf st).map (·.2)) c ys (fun b u e => ?_) g1 o1 hz hc y1 (y2.trans pt) y3⟩
  have e' := k1 b u e
  have lt := Heap.lt_size e'
  show (PyProof.Rows.sortedHeap (s1.heap.push (seqObj "list" vs.toArray 0)) s1.heap.objs.size vs ((arrOf st).map (·.2))).get? b = some u
  rw [PyProof.Rows.sortedHeap_old (Nat.ne_of_lt lt) (by rw [size_push']; exact Nat.lt_succ_of_lt lt)]
  exact Heap.get?_push_of_some _ e'
end
end Kn


namespace Kn
open PySem PySem.Spec PyProof.Rows L2
/-- the tracked set of texts -/
def SetTx (w : World) (a : Addr) (L : List Str) : HO := .ext fun h => TxtSet w h a L
section
variable {X : Cx}
theorem setTx_new {w : World} {P : Program} {H : Hp} {h : Heap} {a : Addr} {L : List Str} (R : TxtSet w h a L) : ObjOk P w H h a (SetTx w a L) := by
  have ⟨⟨o, _, _, _, ho, _⟩, _, _⟩ := R
  exact ⟨R, ⟨o, ho⟩, fun h1 h2 p k => p.move k⟩
theorem setTx_get {pins : List (Addr × Obj)} {σ : L2.St} {H : Hp} {s : Shared} {a : Addr} {L : List Str} (I : Inv X pins σ H s) (ha : H a = some (SetTx X.w a L)) : TxtSet X.w s.heap a L := (I.hok a _ ha).1
/-- set(xs) of texts -/
def rSetTx (K : PySem.W.Frag) (w : World) : List V → Hp → VK → Prop := fun vs H Q => ∃ (l : Addr) (xs : List Str), vs = [.ref l] ∧ SqL K H l (xs.map V.str) ∧ xs.length < 1000 ∧ ∀ p, H p = none → Q (.ref p) (upd H p (SetTx w p (gathered xs)))
theorem cr_setTx (hc : X.calm = true) : CallR X (.type "set") (rSetTx X.K X.w) := by
  intro pins s σ H vs us Q I r h
  obtain ⟨l, xs, rfl, hl, few, q⟩ := h
  rw [Vals.ref1 r]
  obtain ⟨its, rv, pl, hz⟩ := I.list hl
  have room : xs.length + 1 < scanBound := Nat.lt_of_lt_of_le (Nat.succ_lt_succ few) (by decide)
  refine txt_set xs (I.ok.hd hc) pl.isList (by simpa using rv.strs) room fun h' tk T keep => ?_
  exact ⟨.ref _, upd H s.heap.objs.size (SetTx X.w s.heap.objs.size (gathered xs)), I.laid (t' := tk) keep (Nat.le_refl _) (setTx_new T), rfl, q _ (I.hok.fresh (Nat.le_refl _))⟩
/-- sorted of it -/
def rSortedTx (w : World) : List V → Hp → VK → Prop := fun vs H Q => ∃ (a : Addr) (L : List Str), vs = [.ref a] ∧ H a = some (SetTx w a L) ∧ L.length < 64 ∧ ∀ (ys : List Str) (p : Addr), ys.Perm L → sortedS ys = true → H p = none → Q (.ref p) (upd H p (.lst (ys.map V.str)))
theorem cr_sortedTx (hc : X.calm = true) : CallR X (.builtin "sorted") (rSortedTx X.w) := by
  intro pins s σ H vs us Q I r h
  obtain ⟨a, L, rfl, ha, few, q⟩ := h
  rw [Vals.ref1 r]
  refine txt_sorted (setTx_get I ha) (I.ok.hd hc) few fun s' p out c ys keep g o hp hg hi pm so => ?_
  have len : (ys.map V.str).length ≤ sizeLine := by rw [List.length_map, pm.length_eq]; exact Nat.le_trans (Nat.le_of_lt few) (by decide)
  have fresh : H p = none := I.hok.fresh hp
  have J : Inv X pins σ (upd H p (.lst (ys.map V.str))) { s with heap := s'.heap, gens := s'.gens, drawn := s'.drawn, toks := s'.toks } :=
    I.call (ch := []) (Un.laid keep hp fresh) (I.hok.laid keep hp ⟨len, out.toList, c, vals_of_strs hi, hg⟩) (by rw [g]; exact I.bare) (fun _ z => nomatch z)
  have e : s' = { s with heap := s'.heap, gens := s'.gens, drawn := s'.drawn, toks := s'.toks } := by
    rcases s' with ⟨a1, a2, a3, a4, a5⟩
    rcases s with ⟨b1, b2, b3, b4, b5⟩
    cases o
    rfl
  rw [e]
  exact ⟨.ref p, _, J, rfl, q ys p pm so fresh⟩
end
end Kn


namespace Kn
open PySem PySem.Spec PyProof.Rows L2
/-! ### f(y1 = e1, y2 = e2, y3 = e3), the other way about; nothing is raised -/
section
variable {X : Cx} {k : Nat} {f : Addr} {fd : FuncData} {y1 y2 y3 x : Str} {sp : Sp} {p pos k1 k2 k3 : Pos} {e1 e2 e3 : Expr} {t1 t2 t3 : TE}
def tKw3 (sp : Sp) (t1 t2 t3 : TE) : TE := fun σ H Q => t1 σ H fun u G => t2 σ G fun v G' => t3 σ G' fun z G'' => sp [z, v, u] G'' Q E0
theorem pe_kw3 (F : FnOk X.prog X.w X.K X.mg X.base (L2.CX X.prog X.w) k f fd [y3, y2, y1] sp) (hr : Room k X.A) (hg : Gl X x) (hm : X.mg x = some (.ref f)) (hk : PySem.W.keepIn X.K (.ref f) = true)
    (hb : ∀ (s : Shared) (u v z : Value), BindsTo s fd ⟨[], [(y1, u), (y2, v), (y3, z)]⟩ [(y3, z), (y2, v), (y1, u)]) (he1 : PE X e1 t1) (he2 : PE X e2 t2) (he3 : PE X e3 t3) (hdb : (x == ("__debug__" : Str)) = false := by decide)
    (h1 : (backToKw pos (keywordEach [⟨some y1, e1, k1⟩, ⟨some y2, e2, k2⟩, ⟨some y3, e3, k3⟩] X.env)).all (·.1.isSome) = true := by rfl) (h2 : (backToKw pos (keywordEach [⟨some y1, e1, k1⟩, ⟨some y2, e2, k2⟩, ⟨some y3, e3, k3⟩] X.env)).filterMap (·.1) = [y1, y2, y3] := by rfl)
    (h3 : ((backTo pos (starEach [] X.env)).any (·.1) || (backToKw pos (keywordEach [⟨some y1, e1, k1⟩, ⟨some y2, e2, k2⟩, ⟨some y3, e3, k3⟩] X.env)).any (·.1.isNone)) = false := by rfl) :
    PE X (.Call (.Name x p) [] [⟨some y1, e1, k1⟩, ⟨some y2, e2, k2⟩, ⟨some y3, e3, k3⟩] pos) (tKw3 sp t1 t2 t3) := by
  have hkw : PK X [⟨some y1, e1, k1⟩, ⟨some y2, e2, k2⟩, ⟨some y3, e3, k3⟩] (tCons t1 (tCons t2 (tCons t3 tNil))) := pk_cons he1 (pk_cons he2 (pk_cons he3 pk_nil))
  refine ⟨fun pins s σ H Q I told => wpAny_Call_Name_kw (ld_glob I hg hm ?_ hdb)⟩
  refine PySem.W.callWith_KW0 (h₀ := X.base) I.ok.mod.kin hk h1 (thn (hkw.run pos pins s σ H (fun vs G => ∃ u v z, vs = [u, v, z] ∧ sp [z, v, u] G Q E0) I ?_) ?_) h3
  · have told : t1 σ H fun u G => t2 σ G fun v G' => t3 σ G' fun z G'' => sp [z, v, u] G'' Q E0 := told
    have mono : (tCons t1 (tCons t2 (tCons t3 tNil))) σ H (fun vs G => ∃ u v z, vs = [u, v, z] ∧ sp [z, v, u] G Q E0) = (t1 σ H fun u G => t2 σ G fun v G' => t3 σ G' fun z G'' => ∃ u' v' z', [u, v, z] = [u', v', z'] ∧ sp [z', v', u'] G'' Q E0) := rfl
    rw [mono]
    have e : ∀ u v z G, (∃ u' v' z', [u, v, z] = [u', v', z'] ∧ sp [z', v', u'] G Q E0) = sp [z, v, u] G Q E0 := fun u v z G =>
      propext ⟨fun ⟨u', v', z', h, q⟩ => by cases h; exact q, fun q => ⟨u, v, z, rfl, q⟩⟩
    simp only [e]
    exact told
  · rintro us s1 ⟨vs, H1, I1, rv, u0, v0, z0, rfl, q⟩
    refine ⟨I1.kIn, ?_⟩
    rw [h2]
    cases rv with
    | cons r1 rr =>
      cases rr with
      | cons r2 rr =>
        cases rr with
        | cons r3 rr =>
          cases rr
          refine wpAny_call (codeAny_mono (F.run X.A X.stack s1 H1 ⟨[], [(y1, _), (y2, _), (y3, _)]⟩ [_, _, _] [z0, v0, u0] Q E0 hr I1.env0 (hb s1 _ _ _) (.cons r3 (.cons r2 (.cons r1 .nil))) q) ?_)
          intro r s2 out
          cases r with
          | error e => exact passF pins σ H1 s1 e s2 I1 out
          | ok fl =>
            cases fl with
            | ret u => exact I1.after out
            | next => exact False.elim out
            | brk => exact False.elim out
            | cont => exact False.elim out
end
end Kn


namespace Kn
open PySem PySem.Spec PyProof.Rows L2
/-! ### f(y1 = e1, y2 = e2, y3 = e3), where the def names y2, y3, y1; nothing is raised -/
section
variable {X : Cx} {k : Nat} {f : Addr} {fd : FuncData} {y1 y2 y3 x : Str} {sp : Sp} {p pos k1 k2 k3 : Pos} {e1 e2 e3 : Expr} {t1 t2 t3 : TE}
def tKw3b (sp : Sp) (t1 t2 t3 : TE) : TE := fun σ H Q => t1 σ H fun u G => t2 σ G fun v G' => t3 σ G' fun z G'' => sp [v, z, u] G'' Q E0
theorem pe_kw3b (F : FnOk X.prog X.w X.K X.mg X.base (L2.CX X.prog X.w) k f fd [y2, y3, y1] sp) (hr : Room k X.A) (hg : Gl X x) (hm : X.mg x = some (.ref f)) (hk : PySem.W.keepIn X.K (.ref f) = true)
    (hb : ∀ (s : Shared) (u v z : Value), BindsTo s fd ⟨[], [(y1, u), (y2, v), (y3, z)]⟩ [(y2, v), (y3, z), (y1, u)]) (he1 : PE X e1 t1) (he2 : PE X e2 t2) (he3 : PE X e3 t3) (hdb : (x == ("__debug__" : Str)) = false := by decide)
    (h1 : (backToKw pos (keywordEach [⟨some y1, e1, k1⟩, ⟨some y2, e2, k2⟩, ⟨some y3, e3, k3⟩] X.env)).all (·.1.isSome) = true := by rfl) (h2 : (backToKw pos (keywordEach [⟨some y1, e1, k1⟩, ⟨some y2, e2, k2⟩, ⟨some y3, e3, k3⟩] X.env)).filterMap (·.1) = [y1, y2, y3] := by rfl)
    (h3 : ((backTo pos (starEach [] X.env)).any (·.1) || (backToKw pos (keywordEach [⟨some y1, e1, k1⟩, ⟨some y2, e2, k2⟩, ⟨some y3, e3, k3⟩] X.env)).any (·.1.isNone)) = false := by rfl) :
    PE X (.Call (.Name x p) [] [⟨some y1, e1, k1⟩, ⟨some y2, e2, k2⟩, ⟨some y3, e3, k3⟩] pos) (tKw3b sp t1 t2 t3) := by
  have hkw : PK X [⟨some y1, e1, k1⟩, ⟨some y2, e2, k2⟩, ⟨some y3, e3, k3⟩] (tCons t1 (tCons t2 (tCons t3 tNil))) := pk_cons he1 (pk_cons he2 (pk_cons he3 pk_nil))
  refine ⟨fun pins s σ H Q I told => wpAny_Call_Name_kw (ld_glob I hg hm ?_ hdb)⟩
  refine PySem.W.callWith_KW0 (h₀ := X.base) I.ok.mod.kin hk h1 (thn (hkw.run pos pins s σ H (fun vs G => ∃ u v z, vs = [u, v, z] ∧ sp [v, z, u] G Q E0) I ?_) ?_) h3
  · have told : t1 σ H fun u G => t2 σ G fun v G' => t3 σ G' fun z G'' => sp [v, z, u] G'' Q E0 := told
    have mono : (tCons t1 (tCons t2 (tCons t3 tNil))) σ H (fun vs G => ∃ u v z, vs = [u, v, z] ∧ sp [v, z, u] G Q E0) = (t1 σ H fun u G => t2 σ G fun v G' => t3 σ G' fun z G'' => ∃ u' v' z', [u, v, z] = [u', v', z'] ∧ sp [v', z', u'] G'' Q E0) := rfl
    rw [mono]
    have e : ∀ u v z G, (∃ u' v' z', [u, v, z] = [u', v', z'] ∧ sp [v', z', u'] G Q E0) = sp [v, z, u] G Q E0 := fun u v z G =>
      propext ⟨fun ⟨u', v', z', h, q⟩ => by cases h; exact q, fun q => ⟨u, v, z, rfl, q⟩⟩
    simp only [e]
    exact told
  · rintro us s1 ⟨vs, H1, I1, rv, u0, v0, z0, rfl, q⟩
    refine ⟨I1.kIn, ?_⟩
    rw [h2]
    cases rv with
    | cons r1 rr =>
      cases rr with
      | cons r2 rr =>
        cases rr with
        | cons r3 rr =>
          cases rr
          refine wpAny_call (codeAny_mono (F.run X.A X.stack s1 H1 ⟨[], [(y1, _), (y2, _), (y3, _)]⟩ [_, _, _] [v0, z0, u0] Q E0 hr I1.env0 (hb s1 _ _ _) (.cons r2 (.cons r3 (.cons r1 .nil))) q) ?_)
          intro r s2 out
          cases r with
          | error e => exact passF pins σ H1 s1 e s2 I1 out
          | ok fl =>
            cases fl with
            | ret u => exact I1.after out
            | next => exact False.elim out
            | brk => exact False.elim out
            | cont => exact False.elim out
end
end Kn


namespace Kn
open PySem PySem.Spec PyProof.Rows L2
def topS (i : Nat) : Stmt := PySem.Challenge.pw_firstletter_k06_whole_arrows_changed.main.body.getD i (.Pass ⟨0, 0, 0, 0⟩)
theorem sum_le {n : Nat} : ∀ (ys : List Str), (∀ y ∈ ys, Fit n y) → (ys.map (·.length)).sum ≤ ys.length * n
  | [], _ => Nat.zero_le _
  | y :: r, h => by
    have ih := sum_le r fun v hv => h v (List.mem_cons_of_mem _ hv)
    have q := (h y (List.mem_cons_self ..)).1
    rw [List.map_cons, List.sum_cons, List.length_cons, Nat.add_mul]
    omega
/-- what join asks: few short texts -/
theorem join_room {n m : Nat} {a : Str} {ys : List Str} (h : ∀ y ∈ ys, Fit n y) (ha : a.length ≤ 10) (hl : ys.length ≤ m) (hm : m * (n + 10) ≤ 16777216) : (ys.map (·.length)).sum + ys.length * a.length ≤ 16777216 := by
  have h1 := sum_le ys h
  have h2 : ys.length * (n + 10) ≤ m * (n + 10) := Nat.mul_le_mul_right _ hl
  have h3 : ys.length * a.length ≤ ys.length * 10 := Nat.mul_le_mul_left _ ha
  rw [Nat.mul_add] at h2
  omega
theorem size16 : 16777216 ≤ sizeLine := by decide
theorem map_get {α β : Type} {f : α → β} {l : List α} {i : Nat} {y : β} (h : (l.map f)[i]? = some y) : ∃ x, l[i]? = some x ∧ f x = y := by
  rw [List.getElem?_map] at h
  exact Option.map_eq_some_iff.mp h
theorem seq_asg {te : TE} {g : TG} {u : TS} {D : Ends} {σ : L2.St} {H : Hp} (h : te σ H fun x H1 => g x σ H1 (u D)) : tSeq (tAsg te g) u D σ H := h
theorem big_of {n : Nat} {x : Str} (h : Fit n x) (l : n ≤ 100000) : x.length ≤ sizeLine := Nat.le_trans h.1 (Nat.le_trans l (by decide))
end Kn


namespace Kn
open PySem PySem.Spec PyProof.Rows L2
/-! ### the feed -/
abbrev kCells : Key := .inr "cells"
abbrev kAt : Key := .inr "at"
abbrev kHeld : Key := .inr "held"
abbrev kCount : Key := .inr "count"
theorem d1 : ¬ kCells = kAt := by decide +kernel
theorem d2 : ¬ kCells = kHeld := by decide +kernel
theorem d3 : ¬ kCells = kCount := by decide +kernel
theorem d4 : ¬ kAt = kHeld := by decide +kernel
theorem d5 : ¬ kAt = kCount := by decide +kernel
theorem d6 : ¬ kHeld = kCount := by decide +kernel
structure Four (a : Addr) (t h n : Int) (kvs : List (Key × V)) : Prop where
  few : kvs.length ≤ 4
  cells : valV kvs kCells = some (.ref a)
  at_ : valV kvs kAt = some (.int t)
  held : valV kvs kHeld = some (.int h)
  count : valV kvs kCount = some (.int n)
theorem putK_len {kvs : List (Key × V)} {k : Key} {x v : V} (h : valV kvs k = some x) : (putK kvs k v).length = kvs.length := by
  unfold putK
  rw [if_pos (by rw [valV_any, h]; rfl), List.length_map]
section
variable {a : Addr} {t h n : Int} {kvs : List (Key × V)}
theorem Four.put_at (q : Four a t h n kvs) (x : Int) : Four a x h n (putK kvs kAt (.int x)) :=
  ⟨by rw [putK_len q.at_]; exact q.few, by rw [valV_put, if_neg d1]; exact q.cells, by rw [valV_put, if_pos rfl], by rw [valV_put, if_neg fun e => d4 e.symm]; exact q.held, by rw [valV_put, if_neg fun e => d5 e.symm]; exact q.count⟩
theorem Four.put_held (q : Four a t h n kvs) (x : Int) : Four a t x n (putK kvs kHeld (.int x)) :=
  ⟨by rw [putK_len q.held]; exact q.few, by rw [valV_put, if_neg d2]; exact q.cells, by rw [valV_put, if_neg d4]; exact q.at_, by rw [valV_put, if_pos rfl], by rw [valV_put, if_neg fun e => d6 e.symm]; exact q.count⟩
theorem Four.put_count (q : Four a t h n kvs) (x : Int) : Four a t h x (putK kvs kCount (.int x)) :=
  ⟨by rw [putK_len q.count]; exact q.few, by rw [valV_put, if_neg d3]; exact q.cells, by rw [valV_put, if_neg d5]; exact q.at_, by rw [valV_put, if_neg d6]; exact q.held, by rw [valV_put, if_pos rfl]⟩
theorem four_new (a : Addr) : Four a 0 0 0 (mergeK [] [(kCells, .ref a), (kAt, .int 0), (kHeld, .int 0), (kCount, .int 0)]) := by
  have e : mergeK [] [(kCells, V.ref a), (kAt, .int 0), (kHeld, .int 0), (kCount, .int 0)] = putK (putK (putK (putK [] kCells (.ref a)) kAt (.int 0)) kHeld (.int 0)) kCount (.int 0) := rfl
  refine ⟨length_mergeK _ _, ?_, ?_, ?_, ?_⟩
  · rw [e, valV_put, if_neg d3, valV_put, if_neg d2, valV_put, if_neg d1, valV_put, if_pos rfl]
  · rw [e, valV_put, if_neg d5, valV_put, if_neg d4, valV_put, if_pos rfl]
  · rw [e, valV_put, if_neg d6, valV_put, if_pos rfl]
  · rw [e, valV_put, if_pos rfl]
end
/-- the feed at f, its cells at a; at most c draws were made -/
structure Fd (f a : Addr) (ns : List Int) (H : Hp) (c : Nat) : Prop where
  ex : ∃ kvs t h n, H f = some (.dK kvs) ∧ Four a t h n kvs ∧ 0 ≤ t ∧ t ≤ n ∧ n ≤ (c : Int)
  cl : H a = some (.lst (ns.map V.int))
  few : ns.length ≤ 63
def Keep (f : Addr) (H H' : Hp) : Prop := ∀ b o, b ≠ f → H b = some o → H' b = some o
theorem Keep.refl (f : Addr) (H : Hp) : Keep f H H := fun _ _ _ h => h
theorem Keep.trans {f : Addr} {H H1 H2 : Hp} (a : Keep f H H1) (b : Keep f H1 H2) : Keep f H H2 := fun c o n h => b c o n (a c o n h)
theorem keep_same {f : Addr} {H H1 : Hp} (s : Same H H1) : Keep f H H1 := fun b o _ h => s b o h
theorem keep_upd {f : Addr} {H : Hp} {o : HO} : Keep f H (upd H f o) := fun b x n h => by rw [upd_ne n]; exact h
theorem Fd.more {f a : Addr} {ns : List Int} {H : Hp} {c d : Nat} (h : Fd f a ns H c) (l : c ≤ d) : Fd f a ns H d := by
  obtain ⟨⟨kvs, t, x, n, h1, h2, h3, h4, h5⟩, h6, h7⟩ := h
  exact ⟨⟨kvs, t, x, n, h1, h2, h3, h4, by omega⟩, h6, h7⟩
theorem Fd.same {f a : Addr} {ns : List Int} {H H' : Hp} {c : Nat} (h : Fd f a ns H c) (s : Same H H') : Fd f a ns H' c := by
  obtain ⟨⟨kvs, t, x, n, h1, h2⟩, h6, h7⟩ := h
  exact ⟨⟨kvs, t, x, n, s _ _ h1, h2⟩, s _ _ h6, h7⟩
/-- a list of one's own changes -/
theorem Fd.own {f a D : Addr} {ns : List Int} {H : Hp} {c : Nat} {o : HO} (h : Fd f a ns H c) (n1 : f ≠ D) (n2 : a ≠ D) : Fd f a ns (upd H D o) c := by
  obtain ⟨⟨kvs, t, x, n, h1, h2⟩, h6, h7⟩ := h
  exact ⟨⟨kvs, t, x, n, by rw [upd_ne n1]; exact h1, h2⟩, by rw [upd_ne n2]; exact h6, h7⟩
theorem Fd.ne {f a : Addr} {ns : List Int} {H : Hp} {c : Nat} (h : Fd f a ns H c) : a ≠ f := by
  obtain ⟨⟨kvs, t, x, n, h1, _⟩, h6, _⟩ := h
  exact ne_of h6 h1 (by intro z; cases z)
theorem Fd.free {f a D : Addr} {ns : List Int} {H : Hp} {c : Nat} (h : Fd f a ns H c) (n : H D = none) : f ≠ D ∧ a ≠ D := by
  obtain ⟨⟨kvs, t, x, n', h1, _⟩, h6, _⟩ := h
  exact ⟨ne_of_none h1 n, ne_of_none h6 n⟩
/-- the feed's dict changes -/
theorem Fd.put {f a : Addr} {ns : List Int} {H : Hp} {c : Nat} {kvs : List (Key × V)} {t h n : Int} (q : Fd f a ns H c) (F : Four a t h n kvs) (h0 : 0 ≤ t) (h1 : t ≤ n) (h2 : n ≤ (c : Int)) : Fd f a ns (upd H f (.dK kvs)) c :=
  ⟨⟨kvs, t, h, n, upd_same, F, h0, h1, h2⟩, by rw [upd_ne q.ne]; exact q.cl, q.few⟩

theorem dpAll_ints {K : PySem.W.Frag} {H : Hp} : ∀ ns : List Int, DpAll K H (ns.map V.int) (ns.map PyData.int)
  | [] => .nil
  | n :: r => .cons (.int n) (dpAll_ints r)
end Kn


namespace Kn
open PySem PySem.Spec PyProof.Rows L2
abbrev nDraw : List Str := ["_law_feed", "_law_many", "_law_count", "_law_digit", "_law_cells", "_law_at", "_law_cell", "_law_mixed"]
theorem scDraw : FnScope nDraw ["_law_feed", "_law_many"] (defScope (topS 23)) := ⟨rfl, rfl, rfl, by decide +kernel, rfl, by decide +kernel, by decide +kernel⟩
theorem lay_ints : ∀ ns : List Int, PyData.canLayAll0 (ns.map PyData.int) = true
  | [] => rfl
  | n :: r => by
    show (PyData.canLay0 (.int n) && PyData.canLayAll0 (r.map PyData.int)) = true
    rw [lay_ints r]
    rfl
theorem depth_ints : ∀ ns : List Int, PyData.depthAll (ns.map PyData.int) = 0
  | [] => rfl
  | n :: r => by
    show max (PyData.depth (.int n)) (PyData.depthAll (r.map PyData.int)) = 0
    rw [depth_ints r]
    rfl
theorem shaped_ints (ns : List Int) : SeqAt.shaped (.list (ns.map PyData.int)) = true := by
  unfold SeqAt.shaped
  have h1 : PyData.canLay0 (.list (ns.map PyData.int)) = true := by
    show PyData.canLayAll0 (ns.map PyData.int) = true
    exact lay_ints ns
  have h2 : PyData.depth (.list (ns.map PyData.int)) = 1 := by
    show PyData.depthAll (ns.map PyData.int) + 1 = 1
    rw [depth_ints]
  rw [h1, h2]
  rfl
theorem eqv_nil_ints (ns : List Int) : PyData.eqv (.list (ns.map PyData.int)) (.list []) = ns.isEmpty := by
  cases ns with
  | nil => rfl
  | cons n r => rfl
theorem sq_bound {s : Int} (h0 : 0 ≤ s) (h1 : s ≤ 100001) : 0 ≤ 7043 * s * s ∧ 7043 * s * s ≤ 70571415787057 + 100000000000000 := by
  have a : 0 ≤ 7043 * s := by omega
  have b : 7043 * s ≤ 704307043 := by omega
  have c := Int.mul_nonneg a h0
  have d := Int.mul_le_mul b h1 h0 (by decide : (0 : Int) ≤ 704307043)
  exact ⟨c, Int.le_trans d (by decide)⟩
theorem at_mod {ns : List Int} {t : Int} (h : 0 ≤ t) (pos : 0 < ns.length) : ∃ x : Int, atI (ns.map V.int) (t % ((ns.map V.int).length : Int)) = some (.int x) := by
  rw [List.length_map]
  have h0 := Int.emod_nonneg t (show (ns.length : Int) ≠ 0 by omega)
  have h1 := Int.emod_lt_of_pos t (show (0 : Int) < (ns.length : Int) by omega)
  obtain ⟨j, hj⟩ := Int.eq_ofNat_of_zero_le h0
  rw [hj] at h1 ⊢
  have hl : j < ns.length := by omega
  refine ⟨ns[j], at_of rfl ?_⟩
  rw [List.getElem?_map, List.getElem?_eq_getElem hl]
  rfl
def spDraw : Sp := fun vs H Q _ => ∃ (f a : Addr) (ns : List Int) (c : Nat) (m : Int), vs = [.ref f, .int m] ∧ 0 < m ∧ m ≤ 1000 ∧ Fd f a ns H c ∧ c < 100000 ∧
  ∀ (r : Int) (H' : Hp), 0 ≤ r → r < m → Keep f H H' → Fd f a ns H' (c + 1) → Q (.int r) H'
section
variable {P : Program} {w : World} {K : PySem.W.Frag} {mg : Str → Option Value} {base : Heap}
theorem ok_draw {g : Addr} {fd : FuncData} (F : Fun K "_law_draw" "_law_draw" (topS 23) g fd) (mi : mg "int" = none) (ml : mg "len" = none) : FnOk P w K mg base CX0 1 g fd ["_law_feed", "_law_many"] spDraw := by
  refine F.ok scDraw (fun vs H Q E h => ?_) (fun cdv A outer s H vs Q E hr h => ?_)
  · obtain ⟨f, a, ns, c, m, rfl, _⟩ := h
    rfl
  · obtain ⟨f, a, ns, c, m, rfl, m0, m1, fd0, hc, q⟩ := h
    have hu := hu_of hr
    obtain ⟨kvs, t, hh, n, e1, four, t0, tn, nc⟩ := fd0.ex
    refine ⟨_, pss_cons (ps_set (i := 2) scDraw.nd rfl (.inl rfl) (pe_op op_add (pe_dget hu (pv 0) pe_str (fun _ _ => rfl)) pe_int))
      (pss_cons (ps_dput hu (pv 0) pe_str (pv 2) rfl)
      (pss_cons (ps_if (pt_cmpR op_gt (pe_dget hu (pv 0) pe_str (fun _ _ => rfl)) pe_int (nomark _))
        (pss_cons (ps_set (i := 3) scDraw.nd rfl (.inl rfl) (pe_op op_mod (pe_callTy call_int1 (by rfl) mi boot_int (pa_cons (pe_dget hu (pv 0) pe_str (fun _ _ => rfl)) pa_nil)) (pv 1)))
        (pss_cons (ps_dput hu (pv 0) pe_str (pe_op op_fdivN (pe_dget hu (pv 0) pe_str (fun _ _ => rfl)) (pv 1)) rfl)
        (pss_one (ps_ret (pv 3))))) pss_nil)
      (pss_cons (ps_par (i := 4) (j := 5) (by rfl) scDraw.nd rfl rfl (by decide) rfl rfl (pa_cons (pe_dget hu (pv 0) pe_str (fun _ _ => rfl)) (pa_cons (pe_dget hu (pv 0) pe_str (fun _ _ => rfl)) pa_nil)) (by rfl))
      (pss_cons (ps_dput hu (pv 0) pe_str (pe_op op_add (pv 5) pe_int) rfl)
      (pss_cons (ps_set (i := 6) scDraw.nd rfl (.inl rfl) (pe_ifExp (pt_cmpR (op_neD hr.units) (pv 4) (pe_lst pa_nil) (nomark _))
        (pe_ix ix_list (pv 4) (pe_op op_mod (pe_callTy call_int1 (by rfl) mi boot_int (pa_cons (pv 5) pa_nil)) (pe_callB call_len_seq (by rfl) ml PySem.boot_len (pa_cons (pv 4) pa_nil))) (fun _ _ => rfl)) pe_int))
      (pss_cons (ps_if (PW.pt (pw_and (pt_cmpR op_ge (pv 6) (pe_op op_pow pe_int pe_int) (nomark _)) (pw_and1 (pt_cmpR op_lt (pv 5) (pe_callB call_len_seq (by rfl) ml PySem.boot_len (pa_cons (pv 4) pa_nil)) (nomark _)))))
        (pss_cons (ps_dput hu (pv 0) pe_str (pe_op op_fdivN (pv 6) (pv 1)) rfl)
        (pss_one (ps_ret (pe_op op_mod (pe_callTy call_int1 (by rfl) mi boot_int (pa_cons (pv 6) pa_nil)) (pv 1))))) pss_nil)
      (pss_cons (ps_set (i := 7) scDraw.nd rfl (.inl rfl) (pe_op op_mod (pe_callTy call_int1 (by rfl) mi boot_int (pa_cons (pe_op op_pow
        (pe_op op_add (pe_op op_add (pe_op op_mod (pe_callTy call_int1 (by rfl) mi boot_int (pa_cons (pv 6) pa_nil)) pe_int) (pe_op op_mul pe_int (pv 2))) pe_int) pe_int) pa_nil)) pe_int))
      (pss_cons (ps_set (i := 7) scDraw.nd rfl (.inl rfl) (pe_op op_mod (pe_callTy call_int1 (by rfl) mi boot_int (pa_cons (pe_op op_pow
        (pe_op op_add (pe_op op_add (pv 7) (pe_op op_mul (pe_op op_mul pe_int (pv 2)) (pv 2))) pe_int) pe_int) pa_nil)) pe_int))
      (pss_one (ps_ret (pe_op op_mod (pe_callTy call_int1 (by rfl) mi boot_int (pa_cons (pe_op op_fdiv (pv 7) pe_int) pa_nil)) (pv 1)))))))))))), ?_⟩
    have n0 : 0 ≤ n := Int.le_trans t0 tn
    have dg : ∀ {H : Hp} {kvs : List (Key × V)} {k : Key} {v : V}, H f = some (.dK kvs) → valV kvs k = some v → DGet H f (kV k) (some v) := fun e z => by
      rw [← z]
      exact DGet.k e
    have four2 := four.put_count (n + 1)
    have fd2 : Fd f a ns (upd H f (.dK (putK kvs kCount (.int (n + 1))))) (c + 1) := (fd0.more (Nat.le_succ c)).put four2 t0 (by omega) (by omega)
    -- count
    refine ⟨_, rfl, f, .int n, rfl, dg (k := kCount) e1 four.count, n, 1, rfl, rfl, ?_⟩
    refine ⟨_, rfl, _, rfl, f, _, rfl, DPut.k (k := kCount) e1 (small' (Nat.le_trans four.few (by decide))), ?_⟩
    have k2 : Keep f H (upd H f (.dK (putK kvs kCount (.int (n + 1))))) := keep_upd
    have e2 : (upd H f (.dK (putK kvs kCount (.int (n + 1))))) f = some (.dK (putK kvs kCount (.int (n + 1)))) := upd_same
    generalize upd H f (.dK (putK kvs kCount (.int (n + 1)))) = H2 at fd2 e2 k2 ⊢
    generalize putK kvs kCount (.int (n + 1)) = kv2 at four2 e2
    have fw : 4 ≤ sizeLine := by decide
    have m3 : ∀ x : Int, 0 ≤ x % m ∧ x % m < m := fun x => ⟨Int.emod_nonneg _ (by omega), Int.emod_lt_of_pos _ m0⟩
    have cd : CDivN hh m := ⟨by omega, by omega⟩
    refine ⟨_, rfl, f, .int hh, rfl, dg (k := kHeld) e2 four2.held, hh, 0, rfl, rfl, _, rfl, ite2 (fun _ => ?_) (fun _ => ?_)⟩
    · -- a figure of what is held
      refine ⟨_, rfl, f, .int hh, rfl, dg (k := kHeld) e2 four2.held, .inl ⟨hh, rfl, _, rfl, hh, m, rfl, rfl, m0, ?_⟩⟩
      refine ⟨_, rfl, f, .int hh, rfl, dg (k := kHeld) e2 four2.held, _, rfl, hh, m, rfl, rfl, cd, ?_⟩
      refine ⟨_, rfl, f, _, rfl, DPut.k (k := kHeld) e2 (small' (Nat.le_trans four2.few (by decide))), ?_⟩
      exact ⟨_, rfl, q _ _ (m3 hh).1 (m3 hh).2 (k2.trans keep_upd) (fd2.put (four2.put_held _) t0 (by omega) (by omega))⟩
    · -- the next cell
      refine ⟨_, rfl, f, .ref a, rfl, dg (k := kCells) e2 four2.cells, _, rfl, f, .int t, rfl, dg (k := kAt) e2 four2.at_, _, _, rfl, ?_⟩
      have four3 := four2.put_at (t + 1)
      have fd3 := fd2.put four3 (by omega) (by omega) (by omega)
      have k3 := k2.trans (keep_upd (f := f) (H := H2) (o := .dK (putK kv2 kAt (.int (t + 1)))))
      have e3 : (upd H2 f (.dK (putK kv2 kAt (.int (t + 1))))) f = some (.dK (putK kv2 kAt (.int (t + 1)))) := upd_same
      refine ⟨_, rfl, t, 1, rfl, rfl, _, rfl, f, _, rfl, DPut.k (k := kAt) e2 (small' (Nat.le_trans four2.few (by decide))), ?_⟩
      generalize upd H2 f (.dK (putK kv2 kAt (.int (t + 1)))) = H3 at fd3 e3 k3 ⊢
      generalize putK kv2 kAt (.int (t + 1)) = kv3 at four3 e3
      have cl : SqL K H3 a (ns.map V.int) := .inl (.inl fd3.cl)
      refine ⟨.ref a, rfl, Nat.zero_le _, fun z nz => ⟨.list (ns.map PyData.int), .list [], .lst (.inl (.inl (by rw [upd_ne (fd3.free nz).2]; exact fd3.cl))) (dpAll_ints ns), .lst (.inl (.inl upd_same)) .nil, shaped_ints ns, rfl, _, rfl, ?_⟩⟩
      have k4 : Keep f H (upd H3 z (.lst [])) := k3.trans (keep_same (same_new nz))
      have fd4 : Fd f a ns (upd H3 z (.lst [])) (c + 1) := fd3.own (fd3.free nz).1 (fd3.free nz).2
      have e4 : (upd H3 z (.lst [])) f = some (.dK kv3) := by rw [upd_ne (fd3.free nz).1]; exact e3
      generalize upd H3 z (.lst []) = H4 at k4 fd4 e4 ⊢
      have cl4 : SqL K H4 a (ns.map V.int) := .inl (.inl fd4.cl)
      have s0 : 0 ≤ n + 1 := by omega
      have s1 : n + 1 ≤ 100001 := by omega
      have sq := sq_bound s0 s1
      rw [eqv_nil_ints]
      cases hns : ns.isEmpty
      case' false =>
        have pos : 0 < ns.length := by
          cases ns with
          | nil => cases hns
          | cons _ _ => exact Nat.succ_pos _
        obtain ⟨x, hx⟩ := at_mod (ns := ns) (t := t) t0 pos
        refine iteT ⟨.ref a, rfl, _, rfl, .inl ⟨t, rfl, .ref a, rfl, a, ns.map V.int, rfl, .inl cl4, t, _, rfl, rfl, (by rw [List.length_map]; omega), a, ns.map V.int, _, .int x, rfl, rfl, cl4, hx, ?_⟩⟩
      case' true =>
        refine iteF ?_
        show Ends.nx _ (List.set _ 6 (some (V.int 379))) H4
        generalize (379 : Int) = x
      all_goals
        have tail : ∀ (y : Int), 0 ≤ y → y < 2147483629 → (y + 7043 * (n + 1) * (n + 1) + 239).natAbs < 2 ^ 64 := fun y y0 y1 => by omega
        have head : (x % 1000000103 + 40063 * (n + 1) + 1039).natAbs < 2 ^ 64 := by
          have := Int.emod_nonneg x (show (1000000103 : Int) ≠ 0 by decide)
          have := Int.emod_lt_of_pos x (show (0 : Int) < 1000000103 by decide)
          omega
        have mids : ∀ u : Int, 0 ≤ u % 2147483629 ∧ u % 2147483629 < 2147483629 := fun u => ⟨Int.emod_nonneg _ (by decide), Int.emod_lt_of_pos _ (by decide)⟩
        refine ⟨_, rfl, 10, 18, rfl, rfl, ⟨by decide, by decide, by decide⟩, x, _, rfl, rfl, _, rfl, ite2 (fun _ => ⟨_, rfl, .ref a, rfl, a, _, rfl, .inl cl4, t, _, rfl, rfl, _, rfl, ite2 (fun _ => ?_) (fun _ => ?_)⟩) (fun _ => ?_)⟩
        · refine ⟨_, rfl, _, rfl, x, m, rfl, rfl, ⟨by omega, by omega⟩, _, rfl, f, _, rfl, DPut.k (k := kHeld) e4 (small' (Nat.le_trans four3.few (by decide))), ?_⟩
          exact ⟨_, rfl, .inl ⟨x, rfl, _, rfl, x, m, rfl, rfl, m0, q _ _ (m3 x).1 (m3 x).2 (k4.trans keep_upd) (fd4.put (four3.put_held _) (by omega) (by omega) (by omega))⟩⟩
        all_goals
          refine ⟨_, rfl, .inl ⟨x, rfl, x, _, rfl, rfl, (show (0 : Int) < 1000000103 by decide), _, rfl, _, n + 1, rfl, rfl, .inl ⟨by decide, by decide⟩, _, _, rfl, rfl, _, _, rfl, rfl, _, _, rfl, rfl, ⟨by decide, by decide, head⟩, .inl ⟨_, rfl, _, _, rfl, rfl, (show (0 : Int) < 2147483629 by decide), ?_⟩⟩⟩
          obtain ⟨y0, y1⟩ := mids ((x % 1000000103 + 40063 * (n + 1) + 1039) ^ (2 : Int).toNat)
          refine ⟨_, rfl, _, rfl, _, n + 1, rfl, rfl, .inl ⟨by decide, by decide⟩, _, rfl, _, n + 1, rfl, rfl, .inl ⟨by omega, by omega⟩, _, _, rfl, rfl, _, _, rfl, rfl, _, _, rfl, rfl, ⟨by decide, by decide, tail _ y0 y1⟩, .inl ⟨_, rfl, _, _, rfl, rfl, (show (0 : Int) < 2147483587 by decide), ?_⟩⟩
          exact ⟨_, rfl, _, _, rfl, rfl, ⟨by decide, by decide⟩, .inl ⟨_, rfl, _, rfl, _, m, rfl, rfl, m0, q _ _ (m3 _).1 (m3 _).2 k4 fd4⟩⟩
end
end Kn


namespace Kn
open PySem PySem.Spec PyProof.Rows L2
/-! ### what stays -/
def TS (H H' : Hp) : Prop := (∀ b xs, H b = some (.tup xs) → H' b = some (.tup xs)) ∧ ∀ b o xs, H b = some (.frz o (.tup xs)) → H' b = some (.frz o (.tup xs))
theorem TS.refl (H : Hp) : TS H H := ⟨fun _ _ h => h, fun _ _ _ h => h⟩
theorem TS.trans {H H1 H2 : Hp} (a : TS H H1) (b : TS H1 H2) : TS H H2 := ⟨fun c x h => b.1 c x (a.1 c x h), fun c o x h => b.2 c o x (a.2 c o x h)⟩
theorem ts_same {H H' : Hp} (s : Same H H') : TS H H' := ⟨fun b xs h => s b _ h, fun b o xs h => s b _ h⟩
theorem ts_keep {f : Addr} {H H' : Hp} {kvs : List (Key × V)} (e : H f = some (.dK kvs)) (k : Keep f H H') : TS H H' :=
  ⟨fun b xs h => k b _ (ne_of h e (by intro z; cases z)) h, fun b o xs h => k b _ (ne_of h e (by intro z; cases z)) h⟩
theorem ts_fd {f a : Addr} {ns : List Int} {H H' : Hp} {c : Nat} (d : Fd f a ns H c) (k : Keep f H H') : TS H H' := by
  obtain ⟨⟨kvs, t, x, n, h1, _⟩, _, _⟩ := d
  exact ts_keep h1 k
theorem ts_lst {D : Addr} {H : Hp} {acc : List V} {o : HO} (e : H D = some (.lst acc)) : TS H (upd H D o) :=
  ⟨fun b xs h => by rw [upd_ne (ne_of h e (by intro z; cases z))]; exact h, fun b o xs h => by rw [upd_ne (ne_of h e (by intro z; cases z))]; exact h⟩
theorem tupT {K : PySem.W.Frag} {H H' : Hp} {a : Addr} {xs : List V} (s : TS H H') (h : SqT K H a xs) : SqT K H' a xs := by
  rcases h with (h | ⟨o, h⟩) | h
  · exact .inl (.inl (s.1 _ _ h))
  · exact .inl (.inr ⟨o, s.2 _ _ _ h⟩)
  · exact .inr h
theorem EntAt.ts {K : PySem.W.Frag} {H H' : Hp} {v : V} {e : Ent} (s : TS H H') : EntAt K H v e → EntAt K H' v e := fun ⟨p, q, a, b, c⟩ => ⟨p, q, a, tupT s b, tupT s c⟩
theorem EntsAt.ts {K : PySem.W.Frag} {H H' : Hp} (s : TS H H') : ∀ {vs : List V} {es : List Ent}, EntsAt K H vs es → EntsAt K H' vs es
  | _, _, .nil => .nil
  | _, _, .cons a b => .cons (a.ts s) (EntsAt.ts s b)
theorem PgAt.ts {K : PySem.W.Frag} {H H' : Hp} {v : V} {g : Pg} (s : TS H H') : PgAt K H v g → PgAt K H' v g := fun ⟨p, q, vs, a, b, c, d⟩ => ⟨p, q, vs, a, tupT s b, tupT s c, d.ts s⟩
theorem fd_ne {f a p : Addr} {ns : List Int} {H : Hp} {c : Nat} {xs : List V} (d : Fd f a ns H c) (h : H p = some (.lst xs)) : p ≠ f := by
  obtain ⟨⟨kvs, t, x, n, h1, _⟩, _, _⟩ := d
  exact ne_of h h1 (by intro z; cases z)
theorem seqK {K : PySem.W.Frag} {f a p : Addr} {ns : List Int} {H H' : Hp} {c : Nat} {xs : List V} (d : Fd f a ns H c) (k : Keep f H H') (h : SqL K H p xs) : SqL K H' p xs := by
  obtain ⟨⟨kvs, t, x, n, h1, _⟩, _, _⟩ := d
  rcases h with (h | ⟨o, h⟩) | h
  · exact .inl (.inl (k _ _ (ne_of h h1 (by intro z; cases z)) h))
  · exact .inl (.inr ⟨o, k _ _ (ne_of h h1 (by intro z; cases z)) h⟩)
  · exact .inr h

abbrev nStart : List Str := ["_law_script"]
theorem scStart : FnScope nStart ["_law_script"] (defScope (topS 22)) := ⟨rfl, rfl, rfl, by decide +kernel, rfl, by decide +kernel, by decide +kernel⟩
abbrev nAny : List Str := ["_law_feed", "_law_some"]
theorem scAny : FnScope nAny ["_law_feed", "_law_some"] (defScope (topS 24)) := ⟨rfl, rfl, rfl, by decide +kernel, rfl, by decide +kernel, by decide +kernel⟩
abbrev nLab : List Str := ["_law_feed", "_law_many", "_law_pool", "_law_first", "_law_stride", "_law_k"]
theorem scLab : FnScope nLab ["_law_feed", "_law_many"] (defScope (topS 25)) := ⟨rfl, rfl, rfl, by decide +kernel, rfl, by decide +kernel, by decide +kernel⟩
def spStart (K : PySem.W.Frag) : Sp := fun vs H Q _ => ∃ (s : Addr) (ns : List Int), vs = [.ref s] ∧ SqL K H s (ns.map V.int) ∧ ns.length ≤ 63 ∧
  ∀ (f a : Addr) (ms : List Int) (H' : Hp), H f = none → Same H H' → Fd f a ms H' 0 → Q (.ref f) H'
def spAny (K : PySem.W.Frag) : Sp := fun vs H Q _ => ∃ (f a p : Addr) (ns : List Int) (c : Nat) (xs : List V), vs = [.ref f, .ref p] ∧ Fd f a ns H c ∧ c < 100000 ∧ SqL K H p xs ∧ 0 < xs.length ∧ xs.length ≤ 1000 ∧
  ∀ (x : V) (H' : Hp), x ∈ xs → Keep f H H' → Fd f a ns H' (c + 1) → Q x H'
def pool1 : List Str := ["a", "b", "c", "d", "e", "f", "g"]
def pool2 : List Str := ["ab", "a", "abc", "b", "ba", "z", "abcdefgh"]
def pool3 : List Str := ["kind", "asker", "has", "not", "store", "on", "guard"]
def pool4 : List Str := ["m", "zoo", "keeper", "s", "st", "zz", "note"]
def names : List Str := pool1 ++ pool2 ++ pool3 ++ pool4
theorem names_fit : ∀ y ∈ names, Fit 8 y := by
  have h : ∀ y ∈ names, y.length ≤ 8 ∧ y.cps.toList.all (fun c => decide (c < 16 ^ 8)) = true := by decide +kernel
  intro y hy
  obtain ⟨h1, h2⟩ := h y hy
  exact ⟨h1, fun c hc => of_decide_eq_true (List.all_eq_true.mp h2 c hc)⟩
/-! ### the order of names -/
def Lt (a b : Str) : Prop := ltCps a.cps.toList b.cps.toList = true
abbrev Asc (ys : List Str) : Prop := ys.Pairwise Lt
theorem lt_trans {a b c : Str} (ha : a ∈ names) (hb : b ∈ names) (hc : c ∈ names) (h : Lt a b) (k : Lt b c) : Lt a c := by
  have all : (names.all fun a => names.all fun b => !ltCps a.cps.toList b.cps.toList || names.all fun c => !ltCps b.cps.toList c.cps.toList || ltCps a.cps.toList c.cps.toList) = true := by decide +kernel
  have q := List.all_eq_true.mp (List.all_eq_true.mp all a ha) b hb
  rw [h, Bool.not_true, Bool.false_or] at q
  have q := List.all_eq_true.mp q c hc
  rw [k, Bool.not_true, Bool.false_or] at q
  exact q
theorem lt_total {a b : Str} (ha : a ∈ names) (hb : b ∈ names) (ne : a ≠ b) (h : ltCps b.cps.toList a.cps.toList = false) : Lt a b := by
  have all : (names.all fun a => names.all fun b => decide (a = b) || ltCps a.cps.toList b.cps.toList || ltCps b.cps.toList a.cps.toList) = true := by decide +kernel
  have q := List.all_eq_true.mp (List.all_eq_true.mp all a ha) b hb
  rw [decide_eq_false ne, h, Bool.false_or, Bool.or_false] at q
  exact q
theorem asc_rising : ∀ (r : List Str) (p : Str), risingS p r = true → (p :: r).Nodup → (∀ y ∈ p :: r, y ∈ names) → (p :: r).Pairwise Lt
  | [], _, _, _, _ => List.pairwise_singleton _ _
  | x :: r, p, h, nd, hn => by
    have h : (!ltCps x.cps.toList p.cps.toList && risingS x r) = true := h
    obtain ⟨h1, h2⟩ := Bool.and_eq_true_iff.mp h
    have nd2 := (List.nodup_cons.mp nd).2
    have npx : p ≠ x := fun z => (List.nodup_cons.mp nd).1 (z ▸ List.mem_cons_self ..)
    have hp := hn p (List.mem_cons_self ..)
    have hx := hn x (List.mem_cons_of_mem _ (List.mem_cons_self ..))
    have lpx : Lt p x := lt_total hp hx npx (by simpa using h1)
    have ih := asc_rising r x h2 nd2 (fun y hy => hn y (List.mem_cons_of_mem _ hy))
    refine List.pairwise_cons.mpr ⟨fun y hy => ?_, ih⟩
    rcases List.mem_cons.mp hy with rfl | hy
    · exact lpx
    · exact lt_trans hp hx (hn y (List.mem_cons_of_mem _ (List.mem_cons_of_mem _ hy))) lpx ((List.pairwise_cons.mp ih).1 y hy)
theorem asc_sorted {ys : List Str} (h : sortedS ys = true) (nd : ys.Nodup) (hn : ∀ y ∈ ys, y ∈ names) : Asc ys := by
  cases ys with
  | nil => exact List.Pairwise.nil
  | cons p r => exact asc_rising r p h nd hn
def pick (pool : List Str) (r u k : Nat) : Str := pool.getD ((r + k * (1 + u)) % 7) Str.empty
theorem pick_nodup {pool : List Str} (hp : pool ∈ [pool1, pool2, pool3, pool4]) {r u m : Nat} (hr : r < 7) (hu : u < 6) (hm : m ≤ 7) : ((List.range m).map (pick pool r u)).Nodup := by
  have all : ([pool1, pool2, pool3, pool4].all fun p => (List.range 7).all fun r => (List.range 6).all fun u => decide ((List.range 7).map (pick p r u)).Nodup) = true := by decide +kernel
  have q := of_decide_eq_true (List.all_eq_true.mp (List.all_eq_true.mp (List.all_eq_true.mp all pool hp) r (List.mem_range.mpr hr)) u (List.mem_range.mpr hu))
  refine List.Nodup.sublist (List.Sublist.map _ ?_) q
  have e : List.range m = (List.range 7).take m := by rw [List.take_range, Nat.min_eq_left hm]
  rw [e]
  exact List.take_sublist _ _
theorem pick_at {pool : List Str} (hl : pool.length = 7) {r u i j : Nat} (hj : ((r : Int) + (0 + (i : Int)) * (1 + (u : Int))) % 7 = (j : Int)) (h : j < pool.length) : pool[j] = pick pool r u i := by
  have e : (r : Int) + (0 + (i : Int)) * (1 + (u : Int)) = ((r + i * (1 + u) : Nat) : Int) := by
    rw [Int.natCast_add, Int.natCast_mul, Int.natCast_add, Int.zero_add]
    rfl
  rw [e] at hj
  have z : (r + i * (1 + u)) % 7 = j := by omega
  unfold pick
  rw [z, List.getD_eq_getElem?_getD, List.getElem?_eq_getElem h]
  rfl
def spLab : Sp := fun vs H Q _ => ∃ (f a : Addr) (ns : List Int) (c : Nat) (m : Nat), vs = [.ref f, .int m] ∧ m ≤ 7 ∧ Fd f a ns H c ∧ c < 90000 ∧
  ∀ (ys : List Str) (q : Addr) (H' : Hp), H q = none → H' q = some (.lst (ys.map V.str)) → ys.length = m → (∀ y ∈ ys, y ∈ names) → Asc ys → Keep f H H' → Fd f a ns H' (c + 3) → Q (.ref q) H'
section
variable {P : Program} {w : World} {K : PySem.W.Frag} {mg : Str → Option Value} {base : Heap}
theorem ok_start {g : Addr} {fd : FuncData} (F : Fun K "_law_start" "_law_start" (topS 22) g fd) : FnOk P w K mg base CX0 1 g fd ["_law_script"] (spStart K) := by
  refine F.ok scStart (fun vs H Q E h => ?_) (fun cdv A outer s H vs Q E hr h => ?_)
  · obtain ⟨s, ns, rfl, _⟩ := h
    rfl
  · obtain ⟨s, ns, rfl, hS, hl, q⟩ := h
    refine ⟨_, pss_one (ps_ret (pe_disp (pps_cons pe_str (pe_slice sl_list (pv 0) po_none (po_some pe_int)) (pps_cons pe_str pe_int (pps_cons pe_str pe_int (pps_cons pe_str pe_int pps_nil)))) (by rfl) (by rfl) (fun z => by cases z) (by decide))), ?_⟩
    intro f nf
    refine ⟨.ref s, rfl, 63, rfl, s, _, rfl, (same_new nf).seq hS, fun a na => ?_⟩
    have nfa : f ≠ a := ne_of_none (upd_same (H := H) (a := f) (o := .dK [])) na
    have na0 : H a = none := (same_new nf).free na
    refine ⟨by rw [upd_ne nfa]; exact upd_same, [(kCells, .ref a), (kAt, .int 0), (kHeld, .int 0), (kCount, .int 0)], rfl, (show 4 ≤ 15 by decide), ?_⟩
    refine q f a ((ns.drop (HT.sIx (ns.map V.int).length 0 none)).take (HT.sIx (ns.map V.int).length (ns.map V.int).length (some 63) - HT.sIx (ns.map V.int).length 0 none)) _ nf ?_ ⟨⟨_, 0, 0, 0, upd_same, four_new a, by decide, by decide, by decide⟩, ?_, ?_⟩
    · exact putS (putS (same_new nf) na0) nf
    · rw [upd_ne nfa.symm, upd_same]
      unfold cutV
      rw [List.map_take, List.map_drop]
    · rw [List.length_take, List.length_drop]
      omega
theorem ok_any {g gD : Addr} {fd fdD : FuncData} (F : Fun K "_law_any" "_law_any" (topS 24) g fd) (FD : Fun K "_law_draw" "_law_draw" (topS 23) gD fdD) (bD : Binds K fdD ["_law_feed", "_law_many"] []) (mD : mg "_law_draw" = some (.ref gD)) (mi : mg "int" = none) (ml : mg "len" = none) :
    FnOk P w K mg base CX0 2 g fd ["_law_feed", "_law_some"] (spAny K) := by
  have GD : FnOk P w K mg base CX0 1 gD fdD ["_law_feed", "_law_many"] spDraw := ok_draw FD mi ml
  refine F.ok scAny (fun vs H Q E h => ?_) (fun cdv A outer s H vs Q E hr h => ?_)
  · obtain ⟨f, a, p, ns, c, xs, rfl, _⟩ := h
    rfl
  · obtain ⟨f, a, p, ns, c, xs, rfl, fd0, hc, hL, l0, l1, q⟩ := h
    refine ⟨_, pss_one (ps_ret (pe_ix ix_list (pv 1) (pe_call GD hr (by rfl) mD FD.kp bD .nil pass0 (pa_cons (pv 0) (pa_cons (pe_callB call_len_seq (by rfl) ml PySem.boot_len (pa_cons (pv 1) pa_nil)) pa_nil))) (fun _ _ => rfl))), ?_⟩
    refine ⟨.ref p, rfl, .ref f, rfl, .ref p, rfl, p, xs, rfl, .inl hL, f, a, ns, c, _, rfl, by omega, by omega, fd0, hc, fun r H' r0 r1 k fd1 => ?_⟩
    obtain ⟨j, rfl⟩ := Int.eq_ofNat_of_zero_le r0
    have hj : j < xs.length := by omega
    exact ⟨p, xs, _, xs[j], rfl, rfl, seqK fd0 k hL, at_of rfl (List.getElem?_eq_getElem hj), q _ H' (List.getElem_mem hj) k fd1⟩
theorem ok_lab {g gD gA : Addr} {fd fdD fdA : FuncData} (F : Fun K "_law_labels" "_law_labels" (topS 25) g fd) (FA : Fun K "_law_any" "_law_any" (topS 24) gA fdA) (bA : Binds K fdA ["_law_feed", "_law_some"] []) (mA : mg "_law_any" = some (.ref gA))
    (FD : Fun K "_law_draw" "_law_draw" (topS 23) gD fdD) (bD : Binds K fdD ["_law_feed", "_law_many"] []) (mD : mg "_law_draw" = some (.ref gD)) (mi : mg "int" = none) (ml : mg "len" = none) (mr : mg "range" = none) (mo : mg "sorted" = none) :
    FnOk P w K mg base CX0 3 g fd ["_law_feed", "_law_many"] spLab := by
  have GD : FnOk P w K mg base CX0 1 gD fdD ["_law_feed", "_law_many"] spDraw := ok_draw FD mi ml
  have GA : FnOk P w K mg base CX0 2 gA fdA ["_law_feed", "_law_some"] (spAny K) := ok_any FA FD bD mD mi ml
  refine F.ok scLab (fun vs H Q E h => ?_) (fun cdv A outer s H vs Q E hr h => ?_)
  · obtain ⟨f, a, ns, c, m, rfl, _⟩ := h
    rfl
  · obtain ⟨f, a, ns, c, m, rfl, hm, fd0, hc, q⟩ := h
    have hr1 : Room 1 _ := hr.mono (by decide)
    refine ⟨_, pss_cons (ps_set (i := 2) scLab.nd rfl (.inr rfl) (pe_call GA hr (by rfl) mA FA.kp bA .nil pass0 (pa_cons (pv 0) (pa_cons
        (pe_lst (pa_cons (pe_lst (pa_cons pe_str (pa_cons pe_str (pa_cons pe_str (pa_cons pe_str (pa_cons pe_str (pa_cons pe_str (pa_cons pe_str pa_nil))))))))
          (pa_cons (pe_lst (pa_cons pe_str (pa_cons pe_str (pa_cons pe_str (pa_cons pe_str (pa_cons pe_str (pa_cons pe_str (pa_cons pe_str pa_nil))))))))
          (pa_cons (pe_lst (pa_cons pe_str (pa_cons pe_str (pa_cons pe_str (pa_cons pe_str (pa_cons pe_str (pa_cons pe_str (pa_cons pe_str pa_nil))))))))
          (pa_cons (pe_lst (pa_cons pe_str (pa_cons pe_str (pa_cons pe_str (pa_cons pe_str (pa_cons pe_str (pa_cons pe_str (pa_cons pe_str pa_nil)))))))) pa_nil))))) pa_nil))))
      (pss_cons (ps_asg (pe_tup (pa_cons (pe_call GD hr1 (by rfl) mD FD.kp bD .nil pass0 (pa_cons (pv 0) (pa_cons pe_int pa_nil))) (pa_cons (pe_op op_add pe_int (pe_call GD hr1 (by rfl) mD FD.kp bD .nil pass0 (pa_cons (pv 0) (pa_cons pe_int pa_nil)))) pa_nil)))
        (pg_tup (by rfl) (pgs_cons (pg_name (i := 3) scLab.nd rfl (.inr rfl)) (pgs_cons (pg_name (i := 4) scLab.nd rfl (.inr rfl)) pgs_nil))))
      (pss_one (ps_ret (pe_callB cr_sortedS (by rfl) mo (by decide +kernel) (pa_cons (pe_lc (own := [("_law_k", 5)]) (g := gName 5) (by rfl) scLab.nd (pi_range1 (by rfl) mr (pa_cons (pv 1) pa_nil)) (blkOk_by (own := [("_law_k", 5)]) (N := nLab) (sc := defScope (topS 25)) (by decide +kernel))
        (fun _ _ _ _ _ => pg_name (i := 5) scLab.nd rfl (Or.inl rfl)) (fun _ _ _ _ _ => pts_nil) (fun _ _ _ _ _ => pe_ix (r := rIxL K) ix_list (pv 2) (pe_op op_mod (pe_callTy call_int1 (by rfl) mi boot_int (pa_cons (pe_op op_add (pv 3) (pe_op op_mul (pv 5) (pv 4))) pa_nil)) pe_int) (fun _ _ => rfl))) pa_nil))))), ?_⟩
    -- the pools
    refine ⟨.ref f, rfl, (show 7 ≤ sizeLine by decide), fun p1 n1 => ⟨(show 7 ≤ sizeLine by decide), fun p2 n2 => ⟨(show 7 ≤ sizeLine by decide), fun p3 n3 => ⟨(show 7 ≤ sizeLine by decide), fun p4 n4 => ⟨(show 4 ≤ sizeLine by decide), fun p0 n0 => ?_⟩⟩⟩⟩⟩
    have s1 : Same H (upd H p1 (.lst (pool1.map V.str))) := same_new n1
    have s2 : Same _ (upd (upd H p1 (.lst (pool1.map V.str))) p2 (.lst (pool2.map V.str))) := same_new n2
    have s3 : Same _ (upd (upd (upd H p1 (.lst (pool1.map V.str))) p2 (.lst (pool2.map V.str))) p3 (.lst (pool3.map V.str))) := same_new n3
    have s4 : Same _ (upd (upd (upd (upd H p1 (.lst (pool1.map V.str))) p2 (.lst (pool2.map V.str))) p3 (.lst (pool3.map V.str))) p4 (.lst (pool4.map V.str))) := same_new n4
    have s0 : Same _ (upd (upd (upd (upd (upd H p1 (.lst (pool1.map V.str))) p2 (.lst (pool2.map V.str))) p3 (.lst (pool3.map V.str))) p4 (.lst (pool4.map V.str))) p0 (.lst [.ref p1, .ref p2, .ref p3, .ref p4])) := same_new n0
    have e1 := s0 _ _ (s4 _ _ (s3 _ _ (s2 _ _ (upd_same (H := H) (a := p1) (o := .lst (pool1.map V.str))))))
    have e2 := s0 _ _ (s4 _ _ (s3 _ _ (upd_same (a := p2) (o := .lst (pool2.map V.str)))))
    have e3 := s0 _ _ (s4 _ _ (upd_same (a := p3) (o := .lst (pool3.map V.str))))
    have e4 := s0 _ _ (upd_same (a := p4) (o := .lst (pool4.map V.str)))
    have sm := (((s1.trans s2).trans s3).trans s4).trans s0
    have fd5 := fd0.same sm
    refine ⟨f, a, p0, ns, c, [.ref p1, .ref p2, .ref p3, .ref p4], rfl, fd5, by omega, .inl (.inl upd_same), (show 0 < 4 by decide), (show 4 ≤ 1000 by decide), fun x H6 hx k6 fd6 => ?_⟩
    obtain ⟨pp, pool, rfl, ep, lp, hp, hpool⟩ : ∃ (pp : Addr) (pool : List Str), x = .ref pp ∧ H6 pp = some (.lst (pool.map V.str)) ∧ pool.length = 7 ∧ (∀ y ∈ pool, y ∈ names) ∧ pool ∈ [pool1, pool2, pool3, pool4] := by
      simp only [List.mem_cons, List.not_mem_nil, or_false] at hx
      rcases hx with rfl | rfl | rfl | rfl
      · exact ⟨p1, pool1, rfl, k6 _ _ (fd_ne fd5 e1) e1, rfl, fun y hy => List.mem_append_left _ (List.mem_append_left _ (List.mem_append_left _ hy)), by simp⟩
      · exact ⟨p2, pool2, rfl, k6 _ _ (fd_ne fd5 e2) e2, rfl, fun y hy => List.mem_append_left _ (List.mem_append_left _ (List.mem_append_right _ hy)), by simp⟩
      · exact ⟨p3, pool3, rfl, k6 _ _ (fd_ne fd5 e3) e3, rfl, fun y hy => List.mem_append_left _ (List.mem_append_right _ hy), by simp⟩
      · exact ⟨p4, pool4, rfl, k6 _ _ (fd_ne fd5 e4) e4, rfl, fun y hy => List.mem_append_right _ hy, by simp⟩
    have kk6 : Keep f H H6 := (keep_same sm).trans k6
    clear e1 e2 e3 e4 s1 s2 s3 s4 s0 sm
    -- the two draws
    refine ⟨.ref f, rfl, f, a, ns, c + 1, 7, rfl, by decide, by decide, fd6, by omega, fun r H7 r0 r1 k7 fd7 => ?_⟩
    refine ⟨.ref f, rfl, f, a, ns, c + 2, 6, rfl, by decide, by decide, fd7, by omega, fun u H8 u0 u1 k8 fd8 => ⟨1, u, rfl, rfl, (show 2 ≤ sizeLine by decide), fun t nt => ?_⟩⟩
    refine ⟨t, _, rfl, .inl (.inl upd_same), rfl, _, _, rfl, _, _, rfl, rfl, ?_⟩
    have k9 : Keep f H (upd H8 t (.tup [V.int r, V.int (1 + u)])) := ((kk6.trans k7).trans k8).trans (keep_same (same_new nt))
    have fd9 := fd8.same (same_new (o := .tup [V.int r, V.int (1 + u)]) nt)
    have ep8 := k8 _ _ (fd_ne fd6 ep) (k7 _ _ (fd_ne fd6 ep) ep)
    have ep9 : (upd H8 t (.tup [V.int r, V.int (1 + u)])) pp = some (.lst (pool.map V.str)) := same_new nt _ _ ep8
    generalize upd H8 t (.tup [V.int r, V.int (1 + u)]) = H9 at k9 fd9 ep9 ⊢
    obtain ⟨rn, hrn⟩ := Int.eq_ofNat_of_zero_le r0
    obtain ⟨un, hun⟩ := Int.eq_ofNat_of_zero_le u0
    -- the labels
    refine ⟨_, rfl, m, rfl, by omega, by omega, fun D nD => ?_⟩
    refine lc_range (lo := 0) (n := (m : Int).toNat) (fun i G => Same H9 G ∧ ∃ ys : List Str, G D = some (.lst (ys.map V.str)) ∧ ys.length = i ∧ (∀ y ∈ ys, y ∈ names) ∧ ys = (List.range i).map (pick pool rn un)) ⟨same_new nD, [], upd_same, rfl, (fun y hy => by cases hy), rfl⟩ ?_ ?_
    · rintro i G hi ⟨sG, ys, hD, hl, hy, hys⟩
      rw [Int.toNat_natCast] at hi
      refine ⟨rfl, ?_⟩
      simp only [tYes, ↓reduceIte]
      have z0 := Int.emod_nonneg (r + (0 + (i : Int)) * (1 + u)) (show (7 : Int) ≠ 0 by decide)
      have z1 := Int.emod_lt_of_pos (r + (0 + (i : Int)) * (1 + u)) (show (0 : Int) < 7 by decide)
      obtain ⟨j, hj⟩ := Int.eq_ofNat_of_zero_le z0
      have hjl : j < pool.length := by omega
      refine ⟨_, rfl, _, rfl, _, rfl, _, rfl, _, _, rfl, rfl, .inl ⟨by omega, by omega⟩, _, _, rfl, rfl, .inl ⟨_, rfl, _, _, rfl, rfl, (show (0 : Int) < 7 by decide), pp, pool.map V.str, _, .str pool[j], rfl, rfl, .inl (.inl (sG _ _ ep9)), at_of hj ?_, ys.map V.str, hD, ?_, ?_, ys ++ [pool[j]], ?_, ?_, ?_, ?_⟩⟩
      · rw [List.getElem?_map, List.getElem?_eq_getElem hjl]
        rfl
      · rw [List.length_map]
        exact small' (by omega)
      · exact putS sG nD
      · rw [upd_same, List.map_append]
        rfl
      · rw [List.length_append, hl]
        rfl
      · intro y hy'
        rcases List.mem_append.mp hy' with h | h
        · exact hy y h
        · rw [List.mem_singleton.mp h]
          exact hp _ (List.getElem_mem hjl)
      · rw [List.range_succ, List.map_append, ← hys, List.map_singleton]
        rw [hrn, hun] at hj
        rw [pick_at lp hj hjl]
    · rintro G ⟨sG, ys, hD, hl, hy, hys⟩
      rw [Int.toNat_natCast] at hl hys
      have ndy : ys.Nodup := by
        rw [hys]
        exact pick_nodup hpool (by omega) (by omega) hm
      refine ⟨D, ys, rfl, .inl (.inl hD), by omega, fun zs p perm srt np => ?_⟩
      have sp := putS (o := .lst (zs.map V.str)) sG (sG.free np)
      refine q zs p _ ?_ upd_same (by rw [perm.length_eq, hl]) (fun y hz => hy y (perm.mem_iff.mp hz)) (asc_sorted srt (perm.nodup_iff.mpr ndy) (fun y hz => hy y (perm.mem_iff.mp hz))) (k9.trans (keep_same sp)) ((fd9.same sp).more (by omega))
      cases hpH : H p with
      | none => rfl
      | some o =>
        by_cases hpf : p = f
        · subst hpf
          exact absurd rfl ((fd9.same sG).free np).1
        · have := sG _ _ (k9 _ _ hpf hpH)
          rw [np] at this
          cases this
end
end Kn


namespace Kn
open PySem PySem.Spec PyProof.Rows L2
abbrev nPg : List Str := ["_law_feed", "_law_most", "_law_labels_here", "_law_asks", "_law_entries", "_law_label", "_law_holds", "_law_row", "_law_mate"]
theorem scPg : FnScope nPg ["_law_feed", "_law_most"] (defScope (topS 26)) := ⟨rfl, rfl, rfl, by decide +kernel, rfl, by decide +kernel, by decide +kernel⟩
def fees9 : List Int := [1, 1, 1, 2, 3, 9, 10, 12, 10 ^ (59 : Int).toNat]
def feesAll : List Int := [1, 2, 3, 9, 10, 12, 99, 100, 12345678901, 10 ^ (59 : Int).toNat, 10 ^ (60 : Int).toNat - 1]
theorem fees9_all : ∀ i ∈ fees9, i ∈ feesAll := by decide +kernel
theorem feesAll_ok : ∀ i ∈ feesAll, i.natAbs < 10 ^ 60 := by decide +kernel
def Ent.nice (e : Ent) : Prop := e.name ∈ names ∧ e.fee ∈ feesAll ∧ (∀ s ∈ e.row, s ∈ names) ∧ Asc e.row
def spPg (K : PySem.W.Frag) : Sp := fun vs H Q _ => ∃ (f a : Addr) (ns : List Int) (c : Nat) (m : Int), vs = [.ref f, .int m] ∧ 0 < m ∧ m ≤ 5 ∧ Fd f a ns H c ∧ c < 80000 ∧
  ∀ (v : V) (g : Pg) (H' : Hp), PgAt K H' v g → g.ok → (∀ e ∈ g.es, e.nice) → Asc (g.es.map (·.name)) → (∀ e ∈ g.es, (e.has = true → e.name ≠ g.asks) ∧ e.row.Sublist (g.es.map (·.name))) → g.asks ∈ names → 0 < g.es.length → g.es.length ≤ 5 → Keep f H H' → Fd f a ns H' (c + 60) → Q v H'
theorem ne_free {f a p : Addr} {ns : List Int} {H G : Hp} {c : Nat} (d : Fd f a ns G c) (k : Keep f H G) (n : G p = none) : H p = none := by
  cases e : H p with
  | none => rfl
  | some o =>
    by_cases hpf : p = f
    · subst hpf
      exact absurd rfl (d.free n).1
    · have := k _ _ hpf e
      rw [n] at this
      cases this
theorem fees9_ok : ∀ i ∈ fees9, i.natAbs < 10 ^ 60 := by decide +kernel
section
variable {P : Program} {w : World} {K : PySem.W.Frag} {mg : Str → Option Value} {base : Heap}
theorem ok_pg {g gD gA gL : Addr} {fd fdD fdA fdL : FuncData} (F : Fun K "_law_page" "_law_page" (topS 26) g fd)
    (FL : Fun K "_law_labels" "_law_labels" (topS 25) gL fdL) (bL : Binds K fdL ["_law_feed", "_law_many"] []) (mL : mg "_law_labels" = some (.ref gL))
    (FA : Fun K "_law_any" "_law_any" (topS 24) gA fdA) (bA : Binds K fdA ["_law_feed", "_law_some"] []) (mA : mg "_law_any" = some (.ref gA))
    (FD : Fun K "_law_draw" "_law_draw" (topS 23) gD fdD) (bD : Binds K fdD ["_law_feed", "_law_many"] []) (mD : mg "_law_draw" = some (.ref gD)) (mi : mg "int" = none) (ml : mg "len" = none) (mr : mg "range" = none) (mo : mg "sorted" = none) (mt : mg "tuple" = none) :
    FnOk P w K mg base CX0 4 g fd ["_law_feed", "_law_most"] (spPg K) := by
  have GD : FnOk P w K mg base CX0 1 gD fdD ["_law_feed", "_law_many"] spDraw := ok_draw FD mi ml
  have GA : FnOk P w K mg base CX0 2 gA fdA ["_law_feed", "_law_some"] (spAny K) := ok_any FA FD bD mD mi ml
  have GL : FnOk P w K mg base CX0 3 gL fdL ["_law_feed", "_law_many"] spLab := ok_lab FL FA bA mA FD bD mD mi ml mr mo
  refine F.ok scPg (fun vs H Q E h => ?_) (fun cdv A outer s H vs Q E hr h => ?_)
  · obtain ⟨f, a, ns, c, m, rfl, _⟩ := h
    rfl
  · obtain ⟨f, a, ns, c, m, rfl, m0, m1, fd0, hc, q⟩ := h
    have hr1 : Room 1 _ := hr.mono (by decide)
    have hr2 : Room 2 _ := hr.mono (by decide)
    refine ⟨_, pss_cons (ps_set (i := 2) scPg.nd rfl (.inl rfl) (pe_call GL hr (by rfl) mL FL.kp bL .nil pass0 (pa_cons (pv 0) (pa_cons (pe_op op_add pe_int (pe_call GD hr1 (by rfl) mD FD.kp bD .nil pass0 (pa_cons (pv 0) (pa_cons (pv 1) pa_nil)))) pa_nil))))
      (pss_cons (ps_par (i := 3) (j := 4) (by rfl) scPg.nd rfl rfl (by decide) rfl rfl (pa_cons (pe_call GA hr2 (by rfl) mA FA.kp bA .nil pass0 (pa_cons (pv 0) (pa_cons (pv 2) pa_nil))) (pa_cons (pe_lst pa_nil) pa_nil)) (by rfl))
      (pss_cons (ps_for PassesOwn.never rfl (pi_list (pv 2)) (pg_name (i := 5) scPg.nd rfl (.inl rfl))
        (pss_cons (ps_set (i := 6) scPg.nd rfl (.inl rfl) (pe_and (pe_cmpR op_eq (pe_call GD hr1 (by rfl) mD FD.kp bD .nil pass0 (pa_cons (pv 0) (pa_cons pe_int pa_nil))) pe_int (nomark _)) (pe_one (pe_cmpR op_ne (pv 5) (pv 3) (nomark _)))))
        (pss_cons (ps_setLc (i := 7) (own := [("_law_mate", 8)]) (g := gName 8) (by rfl) scPg.nd rfl rfl (sw_true rfl rfl rfl (by decide +kernel)) (pi_list (pv 2)) (blkOk_by (own := [("_law_mate", 8)]) (N := nPg) (sc := defScope (topS 26)) (by decide +kernel))
          (fun _ _ _ _ _ => pg_name (i := 8) scPg.nd rfl (Or.inl rfl)) (fun _ _ _ _ _ => pts_one (pt_cmpR op_eq (pe_call GD hr1 (by rfl) mD FD.kp bD .nil pass0 (pa_cons (pv 0) (pa_cons pe_int pa_nil))) pe_int (nomark _))) (fun _ _ _ _ _ => pv 8))
        (pss_one (ps_expr (pe_bm PySem.F.plainAttrs_list PySem.F.slot_list_append PySem.F.type_list_append mt_append (pv 4) (pa_cons (pe_tup (pa_cons (pv 5)
          (pa_cons (pe_call GA hr2 (by rfl) mA FA.kp bA .nil pass0 (pa_cons (pv 0) (pa_cons (pe_lst (pa_cons pe_int (pa_cons pe_int (pa_cons pe_int (pa_cons pe_int (pa_cons pe_int (pa_cons pe_int (pa_cons pe_int (pa_cons pe_int (pa_cons (pe_op op_pow pe_int pe_int) pa_nil)))))))))) pa_nil)))
          (pa_cons (pv 6) (pa_cons (pe_callTy call_tuple_of (by rfl) mt boot_tuple (pa_cons (pv 7) pa_nil)) pa_nil))))) pa_nil)))))))
      (pss_one (ps_ret (pe_tup (pa_cons (pe_callTy call_tuple_of (by rfl) mt boot_tuple (pa_cons (pv 4) pa_nil)) (pa_cons (pv 3) pa_nil))))))), ?_⟩
    -- the labels
    refine ⟨.ref f, rfl, .ref f, rfl, _, rfl, f, a, ns, c, m, rfl, m0, by omega, fd0, by omega, fun r H1 r0 r1 k1 fd1 => ⟨1, r, rfl, rfl, ?_⟩⟩
    obtain ⟨j, rfl⟩ := Int.eq_ofNat_of_zero_le r0
    refine ⟨f, a, ns, c + 1, 1 + j, ?_, by omega, fd1, by omega, fun ys L H2 nL eL lL hL ascL k2 fd2 => ?_⟩
    · show [V.ref f, V.int (1 + (j : Int))] = [V.ref f, V.int ((1 + j : Nat) : Int)]
      rw [Int.natCast_add]
      rfl
    -- who asks
    refine ⟨.ref f, rfl, .ref L, rfl, f, a, L, ns, c + 4, ys.map V.str, rfl, fd2, by omega, .inl (.inl eL), by rw [List.length_map]; omega, by rw [List.length_map]; omega, fun x H3 hx k3 fd3 => ⟨Nat.zero_le _, fun En nEn => ?_⟩⟩
    obtain ⟨asks, hasks, rfl⟩ := List.mem_map.mp hx
    refine ⟨_, _, rfl, ?_⟩
    have kA : Keep f H (upd H3 En (.lst [])) := ((k1.trans k2).trans k3).trans (keep_same (same_new nEn))
    have fdA : Fd f a ns (upd H3 En (.lst [])) (c + 5) := fd3.same (same_new nEn)
    have eL3 := k3 _ _ (fd_ne fd2 eL) eL
    have eLA : (upd H3 En (.lst [])) L = some (.lst (ys.map V.str)) := same_new nEn _ _ eL3
    have nEL : En ≠ L := (ne_of_none eL3 nEn).symm
    have eEn : (upd H3 En (.lst [])) En = some (.lst []) := upd_same
    have nfa := fd3.free nEn
    have n0E : H En = none := ne_free fd3 ((k1.trans k2).trans k3) nEn
    generalize upd H3 En (.lst []) = H4 at kA fdA eLA eEn ⊢
    -- the loop
    refine ⟨_, rfl, L, rfl, ⟨_, .inl (.inl eLA)⟩, for_list (K := K) (a := L) (xs := ys.map V.str) (fun i σ G => ∃ y5 y6 y7 y8, σ = [some (.ref f), some (.int m), some (.ref L), some (.str asks), some (.ref En), y5, y6, y7, y8] ∧ Keep f H G ∧ Fd f a ns G (c + 5 + 7 * i) ∧
      G L = some (.lst (ys.map V.str)) ∧ ∃ ws es, G En = some (.lst ws) ∧ EntsAt K G ws es ∧ es.length = i ∧ (∀ e ∈ es, e.ok ∧ e.nice) ∧ es.map (·.name) = ys.take i ∧ ∀ e ∈ es, (e.has = true → e.name ≠ asks) ∧ e.row.Sublist ys)
      ⟨none, none, none, none, rfl, kA, fdA, eLA, [], [], eEn, .nil, rfl, (fun e he => by cases he), rfl, (fun e he => by cases he)⟩ (fun i σ G _ ⟨_, _, _, _, _, _, _, h, _⟩ => .inl (.inl h)) ?_ ?_⟩
    · rintro i x σ G hx ⟨y5, y6, y7, y8, rfl, kG, fdG, eLG, ws, es, eEG, hE, lE, okE, nE, aE⟩
      have hi : i < (ys.map V.str).length := (List.getElem?_eq_some_iff.mp hx).1
      rw [List.length_map] at hi
      obtain ⟨y, hy, rfl⟩ := map_get hx
      have hyn := hL y (List.mem_of_getElem? hy)
      refine ⟨.ref f, rfl, f, a, ns, _, 3, rfl, by decide, by decide, fdG, by omega, fun r5 G5 _ _ k5 fd5 => ⟨rfl, _, rfl, ite2 (fun _ => ?_) (fun _ => ?_)⟩⟩
      case' refine_1 =>
        refine ⟨_, rfl, _, rfl, rfl, ?_⟩
        have hne : (!decide (V.str y = V.str asks)) = true → y ≠ asks := fun z w => by
          rw [decide_eq_true (congrArg V.str w)] at z
          cases z
        generalize (!decide (V.str y = V.str asks)) = hb at hne ⊢
      case' refine_2 =>
        show Ends.nx _ (List.set _ 6 (some (V.bl (false && true)))) _
        have hne : (false && true) = true → y ≠ asks := fun z => by cases z
        generalize (false && true) = hb at hne ⊢
      all_goals
        have e5L := k5 _ _ (fd_ne fdG eLG) eLG
        have e5E := k5 _ _ (fd_ne fdG eEG) eEG
        have hE5 := hE.ts (ts_fd fdG k5)
        dsimp only
        refine seq_asg ?_
        refine ⟨.ref L, rfl, L, rfl, ⟨_, .inl (.inl e5L)⟩, fun D nD => ?_⟩
        have nDf := fd5.free nD
        have nDE : En ≠ D := ne_of_none e5E nD
        refine lc_list (K := K) (a := L) (xs := ys.map V.str) (fun k G6 => Keep f G5 G6 ∧ Fd f a ns G6 (c + 6 + 7 * i + k) ∧ ∃ zs : List Str, G6 D = some (.lst (zs.map V.str)) ∧ zs.Sublist (ys.take k))
          ⟨keep_same (same_new nD), (fd5.same (same_new nD)).more (by omega), [], upd_same, List.nil_sublist _⟩ (fun k G6 _ h => .inl (.inl (h.1 _ _ (fd_ne fd5 e5L) e5L))) ?_ ?_
        · rintro k v G6 hv ⟨k6, fd6, zs, eD, sz⟩
          have lz : zs.length ≤ k := Nat.le_trans sz.length_le (by rw [List.length_take]; exact Nat.min_le_left _ _)
          have hk : k < (ys.map V.str).length := (List.getElem?_eq_some_iff.mp hv).1
          rw [List.length_map] at hk
          obtain ⟨z, hzy, rfl⟩ := map_get hv
          refine ⟨rfl, ?_⟩
          refine ⟨.ref f, rfl, f, a, ns, _, 3, rfl, by decide, by decide, fd6, by omega, fun r7 G7 _ _ k7 fd7 => ⟨rfl, _, rfl, ?_⟩⟩
          have e7D := k7 _ _ (fd_ne fd6 eD) eD
          have k57 : Keep f G5 G7 := k6.trans k7
          refine ite2 (fun _ => ?_) (fun _ => ?_)
          · refine ⟨_, rfl, zs.map V.str, e7D, by rw [List.length_map]; exact small' (by omega), fun b o nb hb => ?_, (fd7.own nDf.1 nDf.2).more (by omega), zs ++ [z], ?_, ?_⟩
            · rw [upd_ne (ne_of_none hb nD)]
              exact k57 b o nb hb
            · rw [upd_same, List.map_append]
              rfl
            · rw [List.take_add_one, hzy]
              exact sz.append (List.Sublist.refl _)
          · refine ⟨k57, fd7.more (by omega), zs, e7D, ?_⟩
            rw [List.take_add_one]
            exact sz.trans (List.sublist_append_left _ _)
        · rintro G6 ⟨k6, fd6, zs, eD, sz⟩
          rw [List.length_map] at fd6 sz
          rw [List.take_length] at sz
          have lz : zs.length ≤ ys.length := sz.length_le
          have hz : ∀ z ∈ zs, z ∈ names := fun z h => hL z (sz.subset h)
          have e6E := k6 _ _ (fd_ne fd5 e5E) e5E
          have e6L := k6 _ _ (fd_ne fd5 e5L) e5L
          have hE6 := hE5.ts (ts_fd fd5 k6)
          -- entries.append
          refine ⟨.ref En, rfl, .inl ⟨rfl, _, .inl (.inl e6E)⟩, _, rfl, .ref f, rfl, 10, 59, rfl, rfl, ⟨by decide, by decide, by decide⟩, (show 9 ≤ sizeLine by decide), fun pl npl => ?_⟩
          refine ⟨f, a, pl, ns, c + 11 + 7 * i, fees9.map V.int, rfl, (fd6.same (same_new npl)).more (by omega), by omega, .inl (.inl upd_same), (show 0 < 9 by decide), (show 9 ≤ 1000 by decide), fun x7 G7 hx7 k7 fd7 => ?_⟩
          obtain ⟨fee, hfee, rfl⟩ := List.mem_map.mp hx7
          have fd6p := fd6.same (same_new (o := .lst (fees9.map V.int)) npl)
          have e6pE := same_new (o := .lst (fees9.map V.int)) npl _ _ e6E
          have e7E := k7 _ _ (fd_ne fd6p e6pE) e6pE
          have e6pL := same_new (o := .lst (fees9.map V.int)) npl _ _ e6L
          have e7L := k7 _ _ (fd_ne fd6p e6pL) e6pL
          have e6pD := same_new (o := .lst (fees9.map V.int)) npl _ _ eD
          have e7D := k7 _ _ (fd_ne fd6p e6pD) e6pD
          have hE7 := hE6.ts ((ts_same (same_new npl)).trans (ts_fd fd6p k7))
          have kk7 : Keep f H G7 := (((kG.trans k5).trans k6).trans (keep_same (same_new npl))).trans k7
          refine ⟨_, rfl, _, rfl, D, zs.map V.str, rfl, .inl ⟨.inl (.inl e7D), fun tr ntr => ⟨(show 4 ≤ sizeLine by decide), fun tp ntp => ?_⟩⟩⟩
          have sR : Same G7 (upd G7 tr (.tup (zs.map V.str))) := same_new ntr
          have sP : Same _ (upd (upd G7 tr (.tup (zs.map V.str))) tp (.tup [.str y, .int fee, .bl hb, .ref tr])) := same_new ntp
          have eR := sP _ _ (upd_same (H := G7) (a := tr) (o := .tup (zs.map V.str)))
          have eP : (upd (upd G7 tr (.tup (zs.map V.str))) tp (.tup [.str y, .int fee, .bl hb, .ref tr])) tp = some (.tup [.str y, .int fee, .bl hb, .ref tr]) := upd_same
          have sm := sR.trans sP
          generalize upd (upd G7 tr (.tup (zs.map V.str))) tp (.tup [.str y, .int fee, .bl hb, .ref tr]) = G8 at sm eR eP ⊢
          have e8E := sm _ _ e7E
          have e8L := sm _ _ e7L
          refine ⟨En, ws, _, rfl, rfl, e8E, by rw [hE.len]; exact small' (by omega), ?_⟩
          refine ⟨_, _, _, _, rfl, fun b o nb hb' => ?_, ((fd7.same sm).own nfa.1 nfa.2).more (by omega), ?_, ws ++ [.ref tp], es ++ [⟨y, fee, hb, zs⟩], upd_same, ?_, ?_, ?_, ?_, ?_⟩
          · rw [upd_ne (ne_of_none hb' n0E)]
            exact sm _ _ (kk7 b o nb hb')
          · rw [upd_ne nEL.symm]
            exact e8L
          · refine (hE7.ts ((ts_same sm).trans (ts_lst e8E))).append (.cons ⟨tp, tr, rfl, ?_, ?_⟩ .nil)
            · exact tupT (ts_lst e8E) (.inl (.inl eP))
            · exact tupT (ts_lst e8E) (.inl (.inl eR))
          · rw [List.length_append, lE]
            rfl
          · intro e he
            rcases List.mem_append.mp he with h | h
            · exact okE e h
            · rw [List.mem_singleton.mp h]
              exact ⟨⟨names_fit y hyn, fees9_ok fee hfee, by show zs.length ≤ 8; omega, fun z hz' => names_fit z (hz z hz')⟩, hyn, fees9_all fee hfee, hz, ascL.sublist sz⟩
          · rw [List.map_append, nE, List.take_add_one, hy]
            rfl
          · intro e he
            rcases List.mem_append.mp he with h | h
            · exact aE e h
            · rw [List.mem_singleton.mp h]
              exact ⟨hne, sz⟩
    · rintro σ G ⟨y5, y6, y7, y8, rfl, kG, fdG, eLG, ws, es, eEG, hE, lE, okE, nE, aE⟩
      rw [List.length_map] at lE fdG
      refine ⟨.ref En, rfl, En, ws, rfl, .inl ⟨.inl (.inl eEG), fun te nte => ⟨_, rfl, (show 2 ≤ sizeLine by decide), fun tp ntp => ?_⟩⟩⟩
      have sR : Same G (upd G te (.tup ws)) := same_new nte
      have sP : Same _ (upd (upd G te (.tup ws)) tp (.tup [.ref te, .str asks])) := same_new ntp
      have sm := sR.trans sP
      exact q (.ref tp) ⟨es, asks⟩ _ ⟨tp, te, ws, rfl, .inl (.inl upd_same), .inl (.inl (sP _ _ upd_same)), hE.same sm⟩ ⟨by show es.length ≤ 12; omega, (fun e he => (okE e he).1), names_fit asks (hL asks hasks)⟩ (fun e he => (okE e he).2) (by show Asc (es.map (·.name)); rw [nE, List.length_map, List.take_length]; exact ascL) (fun e he => ⟨(aE e he).1, by show e.row.Sublist (es.map (·.name)); rw [nE, List.length_map, List.take_length]; exact (aE e he).2⟩) (hL asks hasks) (by show 0 < es.length; omega) (by show es.length ≤ 5; omega) (kG.trans (keep_same sm)) ((fdG.same sm).more (by omega))
end
end Kn


namespace Kn
open PySem PySem.Spec PyProof.Rows L2
abbrev nRef : List Str := ["_law_error", "_law_families"]
theorem scRef : FnScope nRef ["_law_error"] (defScope (topS 27)) := ⟨rfl, rfl, rfl, by decide +kernel, rfl, by decide +kernel, by decide +kernel⟩
/-- what is known of the error classes: those names that the refusal asks for, seen from NotUsable -/
structure Asked (K : PySem.W.Frag) (mg : Str → Option Value) (x : Str) (D : Addr) (b : Bool) : Prop where
  ex : ∃ C : Addr, mg x = some (.ref C) ∧ PySem.W.kitOne K (.ref D) (.ref C) = some b
structure ErrN (K : PySem.W.Frag) (mg : Str → Option Value) (D : Addr) : Prop where
  is : IsC K D
  xf : XfC K D
  noW : PySem.W.findIn K (.ref D) "word" = some none
  noA : PySem.W.findIn K (.ref D) "at" = some none
  paper : Asked K mg "PaperError" D false
  web : Asked K mg "WebError" D true
  live : Asked K mg "LiveError" D false
  text : Asked K mg "TextError" D false
  use : Asked K mg "NotUsable" D true
  missed : Asked K mg "Missed" D false
  val : PySem.W.kitOne K (.ref D) (.type "ValueError") = some true
def spRef (K : PySem.W.Frag) (D : Addr) : ESp := fun a c d vs H Q _ => ∃ (dd : Addr) (w t : V), vs = [.ref a] ∧ c = .ref D ∧ d = some dd ∧ H dd = some (.xd [("at", t), ("word", w)]) ∧
  ∀ (p : Addr) (H' : Hp), Same H H' → H p = none → H' p = some (.tup [.str "no", .str "use", w, t]) → Q (.ref p) H'
section
variable {P : Program} {w : World} {K : PySem.W.Frag} {mg : Str → Option Value} {base : Heap}
theorem ok_ref {g D : Addr} {fd : FuncData} (F : Fun K "_law_refusal" "_law_refusal" (topS 27) g fd) (T : ErrN K mg D) (mi : mg "isinstance" = none) (mv : mg "ValueError" = none) : Handed P w K mg base 1 g fd ["_law_error"] (spRef K D) := by
  refine Handed.body F scRef (fun a c d vs H Q E h => ?_) (fun cdv A fr s H vs Q E p c d hz hf hr h => ?_)
  · obtain ⟨dd, w, t, rfl, _⟩ := h
    rfl
  · obtain ⟨dd, wv, t, rfl, rfl, rfl, hd, q⟩ := h
    obtain ⟨C1, g1, k1⟩ := T.paper.ex
    obtain ⟨C2, g2, k2⟩ := T.web.ex
    obtain ⟨C3, g3, k3⟩ := T.live.ex
    obtain ⟨C4, g4, k4⟩ := T.text.ex
    obtain ⟨C5, g5, k5⟩ := T.use.ex
    obtain ⟨C6, g6, k6⟩ := T.missed.ex
    have ci := fun {X : Cx} (e : X.K = K) => call_isF (X := X) (a := p.1) (D := D) (d := some dd) (oe := p.2) (pn := []) (by rw [e]; exact T.is) hz hf
    refine ⟨_, pss_cons (ps_set (i := 1) scRef.nd rfl (.inl rfl) (pe_lst (pa_cons (pe_callB (ci rfl) (by rfl) mi boot_isinstance (pa_cons (pv 0) (pa_cons (pe_glob (v := .ref C1) rfl g1 rfl) pa_nil)))
        (pa_cons (pe_callB (ci rfl) (by rfl) mi boot_isinstance (pa_cons (pv 0) (pa_cons (pe_glob (v := .ref C2) rfl g2 rfl) pa_nil)))
        (pa_cons (pe_callB (ci rfl) (by rfl) mi boot_isinstance (pa_cons (pv 0) (pa_cons (pe_glob (v := .ref C3) rfl g3 rfl) pa_nil))) pa_nil)))))
      (pss_cons (ps_expr (pe_bm PySem.F.plainAttrs_list PySem.F.slot_list_append PySem.F.type_list_append mt_append (pv 1) (pa_cons (pe_callB (ci rfl) (by rfl) mi boot_isinstance (pa_cons (pv 0) (pa_cons (pe_glob (v := .ref C4) rfl g4 rfl) pa_nil))) pa_nil)))
      (pss_cons (ps_if (PW.pt (pw_or (pt_cmpR op_ne (pe_bm PySem.F.plainAttrs_list PySem.F.slot_list_count PySem.F.type_list_count mt_bcount (pv 1) (pa_cons pe_bl pa_nil)) pe_int (nomark _))
          (pw_or1 (pt_not (pt_val (pe_callB (ci rfl) (by rfl) mi boot_isinstance (pa_cons (pv 0) (pa_cons (pe_bltn (v := .ty "ValueError") rfl mv PyProof.Rows.Boot.«ValueError» rfl) pa_nil)))))))) (pss_one ps_never) pss_nil)
      (pss_cons (ps_if (PW.pt (pw_and (pt_val (pe_ix (r := rIxL K) ix_list (pv 1) pe_int (fun _ _ => rfl))) (pw_and1 pt_off))) (pss_one ps_never) pss_nil)
      (pss_cons (ps_if (PW.pt (pw_and (pt_val (pe_ix (r := rIxL K) ix_list (pv 1) pe_int (fun _ _ => rfl))) (pw_and (pt_val (pe_callB (ci rfl) (by rfl) mi boot_isinstance (pa_cons (pv 0) (pa_cons (pe_glob (v := .ref C5) rfl g5 rfl) pa_nil))))
          (pw_and1 (pt_not (pt_val (pe_callB (ci rfl) (by rfl) mi boot_isinstance (pa_cons (pv 0) (pa_cons (pe_glob (v := .ref C6) rfl g6 rfl) pa_nil)))))))))
        (pss_one (ps_ret (pe_tup (pa_cons pe_str (pa_cons pe_str (pa_cons (pe_xf T.xf T.noW hz hf (pv 0)) (pa_cons (pe_xf T.xf T.noA hz hf (pv 0)) pa_nil))))))) pss_nil) pss_never)))), ?_⟩
    refine ⟨.ref p.1, rfl, .ref C1, .ref C1, false, dd, _, rfl, (fun _ r => r), k1, rfl, hd, .ref p.1, rfl, .ref C2, .ref C2, true, dd, _, rfl, (fun _ r => r), k2, rfl, hd, .ref p.1, rfl, .ref C3, .ref C3, false, dd, _, rfl, (fun _ r => r), k3, rfl, hd, (show 3 ≤ sizeLine by decide), fun L nL => ?_⟩
    have s1 : Same H (upd H L (.lst [.bl false, .bl true, .bl false])) := same_new nL
    have hd1 := s1 _ _ hd
    refine ⟨.ref L, rfl, .inl ⟨rfl, _, .inl (.inl upd_same)⟩, .ref p.1, rfl, .ref C4, .ref C4, false, dd, _, rfl, (fun _ r => r), k4, rfl, hd1, L, _, _, rfl, rfl, upd_same, (show 3 < sizeLine by decide), ?_⟩
    have s2 : Same H (upd (upd H L (.lst [.bl false, .bl true, .bl false])) L (.lst [.bl false, .bl true, .bl false, .bl false])) := putS s1 nL
    have eL : (upd (upd H L (.lst [.bl false, .bl true, .bl false])) L (.lst [.bl false, .bl true, .bl false, .bl false])) L = some (.lst [.bl false, .bl true, .bl false, .bl false]) := upd_same
    have hd2 := s2 _ _ hd
    show tSeq _ _ _ _ (upd (upd H L (.lst [.bl false, .bl true, .bl false])) L (.lst [.bl false, .bl true, .bl false, .bl false]))
    generalize upd (upd H L (.lst [.bl false, .bl true, .bl false])) L (.lst [.bl false, .bl true, .bl false, .bl false]) = G at s2 eL hd2 ⊢
    have at_ : ∀ {j : Nat} {v : V}, [V.bl false, V.bl true, V.bl false, V.bl false][j]? = some v → atI [V.bl false, V.bl true, V.bl false, V.bl false] (j : Int) = some v := fun h => atI_nat h
    refine ⟨.ref L, rfl, .inl ⟨rfl, _, .inl (.inl eL)⟩, L, [false, true, false, false], true, rfl, rfl, .inl (.inl eL), rfl, ?_⟩
    refine ⟨false, rfl, iteF ?_⟩
    refine ⟨.ref p.1, rfl, .ty "ValueError", .type "ValueError", true, dd, _, rfl, (fun _ r => r), T.val, rfl, hd2, true, rfl, iteF ?_⟩
    refine ⟨.ref L, rfl, L, _, 0, .bl false, rfl, rfl, .inl (.inl eL), at_ (j := 0) rfl, false, rfl, iteF (iteF ?_)⟩
    refine ⟨.ref L, rfl, L, _, 1, .bl true, rfl, rfl, .inl (.inl eL), at_ (j := 1) rfl, true, rfl, iteT ?_⟩
    refine ⟨.ref p.1, rfl, .ref C5, .ref C5, true, dd, _, rfl, (fun _ r => r), k5, rfl, hd2, true, rfl, iteT ?_⟩
    refine ⟨.ref p.1, rfl, .ref C6, .ref C6, false, dd, _, rfl, (fun _ r => r), k6, rfl, hd2, false, rfl, iteT ?_⟩
    refine ⟨.ref p.1, rfl, rfl, rfl, dd, _, wv, rfl, hd2, rfl, .ref p.1, rfl, rfl, rfl, dd, _, t, rfl, hd2, rfl, (show 4 ≤ sizeLine by decide), fun z nz => ?_⟩
    exact q z _ (putS s2 (s2.free nz)) (s2.free nz) upd_same
end
end Kn


namespace Kn
open PySem PySem.Spec PyProof.Rows L2 LamX
abbrev nSaid : List Str := ["_law_ask", "_law_error"]
theorem scSaid : FnScope nSaid ["_law_ask"] (defScope (topS 28)) := ⟨rfl, rfl, rfl, by decide +kernel, rfl, by decide +kernel, by decide +kernel⟩
theorem takes_len {X : Cx} {W : WX} (tk : Takes X W) : Takes X (fun c d σ H => σ.length = X.N.length → W c d σ H) := by
  rintro u s' ⟨a, B, sI, pins, σ, H, c, d, e, I, nb, up, sky, na, os, ag, w⟩
  exact tk u s' ⟨a, B, sI, pins, σ, H, c, d, e, I, nb, up, sky, na, os, ag, w I.len⟩
/-- what is raised: NotUsable(w, t) -/
def Refused (K : PySem.W.Frag) (D : Addr) (Q : VK) : XK := fun c d H => c = .ref D ∧ ∃ (dd : Addr) (w t : V), d = some dd ∧ H dd = some (.xd [("at", t), ("word", w)]) ∧
  ∀ (p : Addr) (H' : Hp), Same H H' → H p = none → H' p = some (.tup [.str "no", .str "use", w, t]) → Q (.ref p) H'
def TTsaid (K : PySem.W.Frag) (D : Addr) : (XK → Hp → VK → Prop) → Hp → VK → Prop := fun tl H Q => tl (Refused K D Q) H fun v H' => 2 ≤ sizeLine ∧ ∀ p, H' p = none → Q (.ref p) (upd H' p (.tup [.str "told", v]))
theorem said_gives {X : Cx} {g gR D CL : Addr} {cdg : Value} {q : Str} {fdR : FuncData} (FR : Fun X.K "_law_refusal" "_law_refusal" (topS 27) gR fdR) (bR : Binds X.K fdR ["_law_error"] []) (mR : X.mg "_law_refusal" = some (.ref gR))
    (GR : Handed X.prog X.w X.K X.mg X.base 1 gR fdR ["_law_error"] (spRef X.K D)) (mL : X.mg "LetterError" = some (.ref CL)) (ex : PySem.W.exmOne X.K (.ref D) (.ref CL) = some true) (hr : Room 2 X.A) :
    GivesTo X nSaid "_law_said" (defScope (topS 28)) g cdg (defBody (topS 28)) "_law_ask" q (TTsaid X.K D) := by
  intro f c' s H Q tl act hc h
  have hrs : L2H.RoomH 1 (cxOf C8.CX0 X.prog X.w X.K X.mg X.base nSaid "_law_said" (defScope (topS 28)) g cdg X.A X.stack s H C8.E0).nox.A := (L2H.roomH_of hr).deeper _
  refine ⟨_, pss_one (ps_try_as (X := (cxOf C8.CX0 X.prog X.w X.K X.mg X.base nSaid "_law_said" (defScope (topS 28)) g cdg X.A X.stack s H C8.E0).nox) (c := .ref CL) (i := 1)
      (tb := fun W D σ H => ∃ Ech : XK, (∀ cls d σ' H', Ech cls d H' → σ'.length = 2 → W cls d σ' H') ∧ σ[0]? = some (some (.ref f)) ∧ H c' = some (CodeO c' q) ∧ tl Ech H (fun v H' => 2 ≤ sizeLine ∧ ∀ p, H' p = none → D.rt (.ref p) (upd H' p (.tup [.str "told", v]))))
      (ts := fun a cls d => tRet (tCall (spRef X.K D a cls d) [] E0 (tCons (tVar 1) tNil)))
      rfl rfl scSaid.nd rfl rfl ⟨rfl, by decide, .inl mL⟩ L2.takes0 (fun W pn xe tk _ => ?_) (fun a oe cls d pn hz hf => pss_one (ps_ret (pe_hand GR hrs hz hf (by rfl) mR FR.kp bR (pa_cons (pv 1) pa_nil))))), ?_⟩
  · refine ⟨fun pins s' σ H' D I h' => ?_⟩
    obtain ⟨Ech, hW, h1, h2, h3⟩ := h'
    exact (pss_one (ps_ret (pe_tup (pa_cons pe_str (pa_cons (act (fun c d σ H => σ.length = 2 → W c d σ H) pn xe Ech _ _ (takes_len tk) (fun c d σ' H' e l => hW c d σ' H' e l)) pa_nil))))).run pins s' σ H' D I ⟨h1, h2, h3⟩
  · refine ⟨Refused X.K D Q, ?_, rfl, hc, ?_⟩
    · rintro cls d σ' H' ⟨rfl, dd, w, t, rfl, hd, q⟩ l
      refine ⟨true, ex, fun _ a ha => ?_, fun z => by cases z⟩
      match σ', l with
      | [u, v], _ => exact ⟨.ref a, rfl, dd, w, t, rfl, rfl, rfl, hd, q⟩
    · exact h
end Kn


namespace Kn
open PySem PySem.Spec PyProof.Rows L2
def initS : Stmt := (C8.clsBody (topS 7)).getD 0 (.Pass ⟨0, 0, 0, 0⟩)
abbrev nInit : List Str := ["self", "word", "at"]
theorem scInit : FnScope nInit ["self", "word", "at"] (defScope initS) := ⟨rfl, rfl, rfl, by decide +kernel, rfl, by decide +kernel, by decide +kernel⟩
abbrev nForm : List Str := ["web", "kind", "row"]
theorem scForm : FnScope nForm ["web", "kind"] (defScope (topS 15)) := ⟨rfl, rfl, rfl, by decide +kernel, rfl, by decide +kernel, by decide +kernel⟩

def spInit (K : PySem.W.Frag) (D : Addr) : Sp := fun vs H Q _ => ∃ (a : Addr) (x y : V), vs = [.ref a, x, y] ∧ H a = some (exo a D none) ∧
  ∀ dx, H dx = none → dx ≠ a → Q .non (upd (upd (upd H dx (exd dx [("word", x)])) a (exo a D (some dx))) dx (exd dx [("at", y), ("word", x)]))
/-- the first kind whose name is d -/
def First (g : Pg) (d : PyData) (e : Ent) : Prop := ∃ i : Nat, g.es[i]? = some e ∧ PyData.eqv (.str e.name) d = true ∧ ∀ (j : Nat) (e' : Ent), j < i → g.es[j]? = some e' → PyData.eqv (.str e'.name) d = false
def Nobody (g : Pg) (d : PyData) : Prop := ∀ e ∈ g.es, PyData.eqv (.str e.name) d = false
def NoKind (D : Addr) (H : Hp) (E : XK) : Prop := ∀ dd, H dd = none → E (.ref D) (some dd) (upd H dd (.xd [("at", .int (-1)), ("word", .str "kind")]))
/-- a web and what is asked for: found, or nobody -/
def spBy (K : PySem.W.Frag) (D : Addr) (R : Pg → Ent → V → Hp → VK → Prop) : Sp := fun vs H Q E => ∃ (v k : V) (g : Pg) (d : PyData), vs = [v, k] ∧ PgAt K H v g ∧ g.ok ∧ (∀ e ∈ g.es, SeqAt.shaped (.str e.name) = true) ∧ Dp K H k d ∧ SeqAt.shaped d = true ∧
  ((∃ e, First g d e ∧ ∀ r, EntAt K H r e → R g e r H Q) ∨ (Nobody g d ∧ NoKind D H E))
structure ErrM (K : PySem.W.Frag) (mg : Str → Option Value) (D fI : Addr) (fdI : FuncData) : Prop where
  n : ErrN K mg D
  x : OexC K D
  F : Fun K "__init__" "NotUsable.__init__" initS fI fdI
  b : Binds K fdI ["self", "word", "at"] []
  i : PySem.W.findIn K (.ref D) "__init__" = some (some (.ref fI))
  t : PySem.W.typeIn K (.ref fI) = some (.type "function")
  m : mg "NotUsable" = some (.ref D)
section
variable {P : Program} {w : World} {K : PySem.W.Frag} {mg : Str → Option Value} {base : Heap}
theorem ok_init {f D : Addr} {fd : FuncData} (T : ErrM K mg D f fd) : FnOk P w K mg base CX0 1 f fd ["self", "word", "at"] (spInit K D) := by
  refine T.F.ok scInit (fun vs H Q E h => ?_) (fun cdv A outer s H vs Q E hr h => ?_)
  · obtain ⟨a, x, y, rfl, _⟩ := h
    rfl
  · obtain ⟨a, x, y, rfl, ha, q⟩ := h
    refine ⟨_, pss_cons (ps_ost (pv 0) (pv 1)) (pss_one (ps_ost (pv 0) (pv 2))), ?_⟩
    refine ⟨x, rfl, .ref a, rfl, a, D, rfl, T.x, T.n.noW, .inl ⟨ha, fun dx nd ne => ?_⟩⟩
    refine ⟨y, rfl, .ref a, rfl, a, D, rfl, T.x, T.n.noA, .inr ⟨dx, [("word", x)], upd_same, (by rw [upd_ne ne, upd_same]), (show 1 ≤ 900 by decide), q dx nd ne⟩⟩
theorem made_raise {H : Hp} {a dx : Addr} {o1 o2 o3 o4 : HO} {fs : List (Str × V)} (ha : H a = none) (ne : dx ≠ a) : upd (del (upd (upd (upd (upd H a o1) dx o2) a o3) dx o4) a) dx (.xd fs) = upd H dx (.xd fs) := by
  funext b
  by_cases h1 : b = dx
  · rw [h1, upd_same, upd_same]
  · rw [upd_ne h1, upd_ne h1]
    by_cases h2 : b = a
    · rw [h2, del_same, ha]
    · rw [del_ne h2, upd_ne h1, upd_ne h2, upd_ne h1, upd_ne h2]
theorem ok_form {f fI D : Addr} {fd fdI : FuncData} (F : Fun K "form_of" "form_of" (topS 15) f fd) (T : ErrM K mg D fI fdI) : FnOk P w K mg base (L2.CX P w) 3 f fd ["web", "kind"] (spBy K D fun _ _ r H Q => Q r H) := by
  have GI : FnOk P w K mg base CX0 1 fI fdI ["self", "word", "at"] (spInit K D) := ok_init T
  refine F.okX scForm (fun vs H Q E h => ?_) (fun cdv A outer s H vs Q E hr h => ?_)
  · obtain ⟨v, k, g, d, rfl, _⟩ := h
    rfl
  · obtain ⟨v, k, g, d, rfl, ⟨p, r, ws, rfl, hp, hr', hE⟩, ok, hn, hk, hs, q⟩ := h
    have lw := hE.len
    refine ⟨_, pss_cons (ps_for (passes_of rfl) rfl (pi_tup (pe_ix ix_tup (pv 0) pe_int (fun _ _ => rfl))) (pg_name (i := 2) scForm.nd rfl (.inl rfl))
        (pss_one (ps_if (pt_cmpR (op_eqD hr.units) (pe_ix ix_tup (pv 2) pe_int (fun _ _ => rfl)) (pv 1) (nomark _)) (pss_one (ps_ret (pv 2))) pss_nil)))
      (pss_one (ps_raise rfl (takes_of rfl rfl rfl rfl) (pmk_oex T.x T.i T.t GI hr T.b .nil pass0 rfl T.m (pa_cons pe_str (pa_cons (pe_un un_neg pe_int) pa_nil))))), ?_⟩
    refine ⟨.ref p, rfl, p, _, 0, .ref r, rfl, rfl, hp, atI_nat (j := 0) rfl, r, rfl, ⟨ws, hr'⟩, ?_⟩
    refine for_tup (K := K) (a := r) (xs := ws) (fun i σ G => G = H ∧ (∃ y, σ = [some (.ref p), some k, y]) ∧ ∀ (j : Nat) (e' : Ent), j < i → g.es[j]? = some e' → PyData.eqv (.str e'.name) d = false) ⟨rfl, ⟨none, rfl⟩, fun j e' h => absurd h (Nat.not_lt_zero j)⟩ (fun i σ G _ h => by rw [h.1]; exact hr') ?_ ?_
    · rintro i x σ G hx ⟨rfl, ⟨y, rfl⟩, old⟩
      obtain ⟨e, he, hv⟩ := hE.get hx
      obtain ⟨p1, r1, rfl, hp1, hr1⟩ := id hv
      refine ⟨.ref p1, rfl, p1, _, 0, .str e.name, rfl, rfl, hp1, atI_nat (j := 0) rfl, k, rfl, _, _, .str e.name, hk, hn e (List.mem_of_getElem? he), hs, _, rfl, ?_⟩
      cases hq : PyData.eqv (.str e.name) d
      · refine iteF ?_
        refine ⟨rfl, ⟨_, rfl⟩, fun j e' hj he' => ?_⟩
        rcases Nat.lt_succ_iff_lt_or_eq.mp hj with hj | rfl
        · exact old j e' hj he'
        · rw [he] at he'
          cases he'
          exact hq
      · refine iteT ⟨_, rfl, ?_⟩
        rcases q with ⟨e0, ⟨i0, h0, h1, h2⟩, q⟩ | ⟨no, _⟩
        · have ei : i = i0 := by
            rcases Nat.lt_trichotomy i i0 with h | h | h
            · exact absurd (h2 i e h he) (by rw [hq]; decide)
            · exact h
            · exact absurd (old i0 e0 h h0) (by rw [h1]; decide)
          subst ei
          rw [he] at h0
          cases h0
          exact q _ hv
        · exact absurd (no e (List.mem_of_getElem? he)) (by rw [hq]; decide)
    · rintro σ G ⟨rfl, ⟨y, rfl⟩, old⟩
      rcases q with ⟨e0, ⟨i0, h0, h1, h2⟩, q⟩ | ⟨no, q⟩
      · have hi : i0 < g.es.length := (List.getElem?_eq_some_iff.mp h0).1
        exact absurd (old i0 e0 (by omega) h0) (by rw [h1]; decide)
      · refine ⟨1, rfl, (show 2 ≤ 1000 by decide), fun a ha => ⟨a, .str "kind", .int (-1), rfl, upd_same, fun dx nd ne => ⟨rfl, dx, _, ?_, upd_same, ?_, ?_⟩⟩⟩
        · rw [upd_ne ne.symm, upd_same]
        · rw [upd_ne ne] at nd
          exact nd
        · rw [upd_ne ne] at nd
          show E _ _ _
          rw [made_raise ha ne]
          exact q dx nd
end
end Kn


namespace Kn
open PySem PySem.Spec PyProof.Rows L2
/-! ### data that can be shown -/
structure Sh (k B : Nat) (d : PyData) : Prop where
  ok : d.showable = true
  nd : d.hasDict = false
  dp : d.depth ≤ k
  ln : d.shown.length ≤ B
theorem Sh.mono {k B k' B' : Nat} {d : PyData} (h : Sh k B d) (a : k ≤ k') (b : B ≤ B') : Sh k' B' d := ⟨h.ok, h.nd, Nat.le_trans h.dp a, Nat.le_trans h.ln b⟩
theorem sh_str {n : Nat} {x : Str} (h : Fit n x) : Sh 0 (10 * n + 2) (.str x) := by
  refine ⟨rfl, rfl, Nat.le_refl _, ?_⟩
  show (reprText x).length ≤ _
  have := StrLaws.reprText_len x h.2
  have := h.1
  omega
theorem sh_int {i : Int} (h : i.natAbs < 10 ^ 60) : Sh 0 61 (.int i) := ⟨by show decide _ = true; exact decide_eq_true (fee_log h), rfl, Nat.le_refl _, (feeT_fit h).1⟩
theorem sh_bool (b : Bool) : Sh 0 5 (.bool b) := by
  refine ⟨rfl, rfl, Nat.le_refl _, ?_⟩
  cases b <;> decide +kernel
theorem shownAll_len {k B : Nat} : ∀ ds : List PyData, (∀ d ∈ ds, Sh k B d) → PyData.showableAll ds = true ∧ PyData.hasDictAll ds = false ∧ PyData.depthAll ds ≤ k ∧ ((PyData.shownAll ds).map (·.length)).sum ≤ ds.length * B ∧ (PyData.shownAll ds).length = ds.length
  | [], _ => ⟨rfl, rfl, Nat.zero_le _, Nat.zero_le _, rfl⟩
  | d :: r, h => by
    obtain ⟨a1, a2, a3, a4, a5⟩ := shownAll_len r fun x hx => h x (List.mem_cons_of_mem _ hx)
    have q := h d (List.mem_cons_self ..)
    refine ⟨?_, ?_, ?_, ?_, ?_⟩
    · show (d.showable && PyData.showableAll r) = true
      rw [q.ok, a1]
      rfl
    · show (d.hasDict || PyData.hasDictAll r) = false
      rw [q.nd, a2]
      rfl
    · show max d.depth (PyData.depthAll r) ≤ k
      have := q.dp
      omega
    · show ((d.shown :: PyData.shownAll r).map (·.length)).sum ≤ (r.length + 1) * B
      rw [List.map_cons, List.sum_cons, Nat.add_mul]
      have := q.ln
      omega
    · show (d.shown :: PyData.shownAll r).length = r.length + 1
      rw [List.length_cons, a5]
theorem sh_list {k B n : Nat} {ds : List PyData} (h : ∀ d ∈ ds, Sh k B d) (hn : ds.length ≤ n) : Sh (k + 1) (n * (B + 2) + 3) (.list ds) := by
  obtain ⟨a1, a2, a3, a4, a5⟩ := shownAll_len ds h
  refine ⟨a1, a2, Nat.succ_le_succ a3, ?_⟩
  show (listText (PyData.shownAll ds)).length ≤ _
  have q := listText_len_le (PyData.shownAll ds)
  rw [a5] at q
  have m : ds.length * (B + 2) ≤ n * (B + 2) := Nat.mul_le_mul_right _ hn
  rw [Nat.mul_add] at m
  omega
theorem sh_tup {k B n : Nat} {ds : List PyData} (h : ∀ d ∈ ds, Sh k B d) (hn : ds.length ≤ n) : Sh (k + 1) (n * (B + 2) + 3) (.tuple ds) := by
  obtain ⟨a1, a2, a3, a4, a5⟩ := shownAll_len ds h
  refine ⟨a1, a2, Nat.succ_le_succ a3, ?_⟩
  show (tupleText (PyData.shownAll ds)).length ≤ _
  have q := tupleText_len_le (PyData.shownAll ds)
  rw [a5] at q
  have m : ds.length * (B + 2) ≤ n * (B + 2) := Nat.mul_le_mul_right _ hn
  rw [Nat.mul_add] at m
  omega
def dEnt (e : Ent) : PyData := .tuple [.str e.name, .int e.fee, .bool e.has, .tuple (e.row.map PyData.str)]
def dPg (g : Pg) : PyData := .tuple [.tuple (g.es.map dEnt), .str g.asks]
theorem dp_strs {K : PySem.W.Frag} {H : Hp} : ∀ ss : List Str, DpAll K H (ss.map V.str) (ss.map PyData.str)
  | [] => .nil
  | s :: r => .cons (.str s) (dp_strs r)
theorem EntAt.dp {K : PySem.W.Frag} {H : Hp} {v : V} {e : Ent} (h : EntAt K H v e) : Dp K H v (dEnt e) := by
  obtain ⟨p, q, rfl, h1, h2⟩ := h
  exact .tup h1 (.cons (.str _) (.cons (.int _) (.cons (.bl _) (.cons (.tup h2 (dp_strs e.row)) .nil))))
theorem EntsAt.dp {K : PySem.W.Frag} {H : Hp} : ∀ {vs : List V} {es : List Ent}, EntsAt K H vs es → DpAll K H vs (es.map dEnt)
  | _, _, .nil => .nil
  | _, _, .cons a b => .cons a.dp (EntsAt.dp b)
theorem PgAt.dp {K : PySem.W.Frag} {H : Hp} {v : V} {g : Pg} (h : PgAt K H v g) : Dp K H v (dPg g) := by
  obtain ⟨p, q, vs, rfl, h1, h2, h3⟩ := h
  exact .tup h1 (.cons (.tup h2 h3.dp) (.cons (.str _) .nil))
theorem sh_ent {e : Ent} (h : e.ok) : Sh 2 3000 (dEnt e) := by
  obtain ⟨h1, h2, h3, h4⟩ := h
  refine (sh_tup (k := 1) (B := 675) (n := 4) ?_ (by simp)).mono (by decide) (by decide)
  intro d hd
  simp only [List.mem_cons, List.not_mem_nil, or_false] at hd
  rcases hd with rfl | rfl | rfl | rfl
  · exact (sh_str h1).mono (by decide) (by decide)
  · exact (sh_int h2).mono (by decide) (by decide)
  · exact (sh_bool _).mono (by decide) (by decide)
  · refine (sh_tup (k := 0) (B := 82) (n := 8) ?_ (by rw [List.length_map]; exact h3)).mono (by decide) (by decide)
    intro d hd
    obtain ⟨s, hs, rfl⟩ := List.mem_map.mp hd
    exact sh_str (h4 s hs)
theorem sh_pg {g : Pg} (h : g.ok) : Sh 4 100000 (dPg g) := by
  obtain ⟨h1, h2, h3⟩ := h
  refine (sh_tup (k := 3) (B := 40000) (n := 2) ?_ (by simp)).mono (by decide) (by decide)
  intro d hd
  simp only [List.mem_cons, List.not_mem_nil, or_false] at hd
  rcases hd with rfl | rfl
  · refine (sh_tup (k := 2) (B := 3000) (n := 12) ?_ (by rw [List.length_map]; exact h1)).mono (by decide) (by decide)
    intro d hd
    obtain ⟨e, he, rfl⟩ := List.mem_map.mp hd
    exact sh_ent (h2 e he)
  · exact (sh_str h3).mono (by decide) (by decide)

end Kn


namespace Kn
open PySem PySem.Spec PyProof.Rows L2 LamX
/-! ### what stays where tables of lambdas grow -/
theorem ext_ts {H H' : Hp} (e : ExtN H H') : TS H H' := ⟨fun b xs h => e b _ h (fun ps z => by cases z), fun b o xs h => e b _ h (fun ps z => by cases z)⟩
theorem ext_same {H H' : Hp} (s : Same H H') : ExtN H H' := ExtN.of s
theorem ext_lst {H H' : Hp} {a : Addr} {xs : List V} (e : ExtN H H') (h : H a = some (.lst xs)) : H' a = some (.lst xs) := e a _ h (fun ps z => by cases z)
theorem ext_tup {H H' : Hp} {a : Addr} {xs : List V} (e : ExtN H H') (h : H a = some (.tup xs)) : H' a = some (.tup xs) := e a _ h (fun ps z => by cases z)
theorem seqE {K : PySem.W.Frag} {H H' : Hp} {a : Addr} {xs : List V} (e : ExtN H H') (h : SqL K H a xs) : SqL K H' a xs := by
  rcases h with (h | ⟨o, h⟩) | h
  · exact .inl (.inl (e _ _ h (fun ps z => by cases z)))
  · exact .inl (.inr ⟨o, e _ _ h (fun ps z => by cases z)⟩)
  · exact .inr h
mutual
theorem dpE {K : PySem.W.Frag} {H H' : Hp} (e : ExtN H H') : ∀ {v : V} {d : PyData}, Dp K H v d → Dp K H' v d
  | _, _, .non => .non
  | _, _, .bl b => .bl b
  | _, _, .int i => .int i
  | _, _, .str x => .str x
  | _, _, .lst h k => .lst (seqE e h) (dpEs e k)
  | _, _, .tup h k => .tup (tupT (ext_ts e) h) (dpEs e k)
theorem dpEs {K : PySem.W.Frag} {H H' : Hp} (e : ExtN H H') : ∀ {vs : List V} {ds : List PyData}, DpAll K H vs ds → DpAll K H' vs ds
  | _, _, .nil => .nil
  | _, _, .cons a b => .cons (dpE e a) (dpEs e b)
end
theorem Fd.ext {f a : Addr} {ns : List Int} {H H' : Hp} {c : Nat} (h : Fd f a ns H c) (e : ExtN H H') : Fd f a ns H' c := by
  obtain ⟨⟨kvs, t, x, n, h1, h2⟩, h6, h7⟩ := h
  exact ⟨⟨kvs, t, x, n, e _ _ h1 (fun ps z => by cases z), h2⟩, ext_lst e h6, h7⟩
/-- one object but no table or code changes -/
theorem tabs_but {T : List (Addr × Str)} {H H' : Hp} {D : Addr} {o : HO} (t : Tabs T H) (hD : H D = some o) (n1 : ∀ ps, o ≠ .tbl ps) (n2 : ∀ c q, o ≠ CodeO c q) (k : ∀ b u, b ≠ D → H b = some u → H' b = some u) : Tabs T H' := by
  intro p hp
  obtain ⟨ps, h1, h2, h3⟩ := t p hp
  refine ⟨ps, k _ _ (fun z => ?_) h1, h2, fun pos cv hc => ?_⟩
  · rw [z, hD] at h1
    exact n1 ps (Option.some.inj h1)
  · obtain ⟨c, e1, e2⟩ := h3 pos cv hc
    refine ⟨c, e1, k _ _ (fun z => ?_) e2⟩
    rw [z, hD] at e2
    exact n2 _ _ (Option.some.inj e2)
theorem lst_code {xs : List V} (c : Addr) (q : Str) : HO.lst xs ≠ CodeO c q := fun z => by
  unfold CodeO at z
  cases z
theorem dk_code {kvs : List (Key × V)} (c : Addr) (q : Str) : HO.dK kvs ≠ CodeO c q := fun z => by
  unfold CodeO at z
  cases z
theorem tabs_lst {T : List (Addr × Str)} {H : Hp} {D : Addr} {xs : List V} {o : HO} (t : Tabs T H) (hD : H D = some (.lst xs)) : Tabs T (upd H D o) :=
  tabs_but t hD (fun ps z => by cases z) lst_code fun b u n h => by rw [upd_ne n]; exact h
theorem tabs_fd {T : List (Addr × Str)} {f a : Addr} {ns : List Int} {H H' : Hp} {c : Nat} (t : Tabs T H) (d : Fd f a ns H c) (k : Keep f H H') : Tabs T H' := by
  obtain ⟨⟨kvs, _, _, _, h1, _⟩, _, _⟩ := d
  exact tabs_but t h1 (fun ps z => by cases z) dk_code k
/-! ### a def whose code object is known -/
structure FunC (K : PySem.W.Frag) (x : Str) (st : Stmt) (f : Addr) (fd : FuncData) (c : Addr) : Prop where
  ex : ∃ (oc : Value) (od : Option Addr) (kV doc pm : Value) (an : Option Addr) (ct : Value) (osl : Array (Option Value)),
    fd = PySem.W.fnOf x x (defArgs st) (defBody st) (defScope st) .none kV doc pm an (.ref c) ct ∧ K.lookup f = some ⟨oc, od, .func fd, osl⟩ ∧ PySem.W.codeIn K (.ref c) x = true
  kp : PySem.W.keepIn K (.ref f) = true
section
variable {P : Program} {w : World} {K : PySem.W.Frag} {mg : Str → Option Value} {base : Heap} {k : Nat} {f c : Addr} {fd : FuncData} {ps N : List Str} {sp : Sp} {x : Str} {st : Stmt}
theorem Vow.bodyC (F : FunC K x st f fd c) (S : FnScope N ps (defScope st)) (many : ∀ vs H Q E, sp vs H Q E → vs.length = ps.length)
    (hb : ∀ (A : Around) (fr : List Env) (s : Shared) (H : Hp) (vs : List V) (Q : VK) (E : XK), A.guards = some [] → Room k (A.deeper (envOfC x (defScope st) s.heap.objs.size f (.ref c))) → sp vs H Q E →
      ∃ t, PSs (cxOf CX0 P w K mg base N x (defScope st) f (.ref c) A fr s H E).nox (defBody st) t ∧ t { nx := fun _ H' => Q .non H', rt := Q } (start N vs) H) :
    Vow P w K mg base (k + 1) f fd ps sp := by
  obtain ⟨oc, od, kV, doc, pm, an, ct, osl, rfl, look, cdOk⟩ := F.ex
  refine ⟨many, fun A fr s H g us vs Q E hg room z bound rv told => ?_⟩
  have held : ∀ b o, base.get? b = some o → s.heap.get? b = some o := fun b o y => (z.bs b o y).1
  have KS : K.In s.heap := z.mod.kin.keeps held
  have parL : ∀ y ∈ ps.zip us, (defScope st).names.lookup y.1 = some .local ∨ ((defScope st).names.lookup y.1 = some .cell ∧ ((cellsFrom (s.heap.objs.size + 1) (defScope st).names []).lookup y.1).isSome = true) := by
    rintro ⟨n, v⟩ hy
    cases S.par n (List.of_mem_zip hy).1 with
    | inl q => exact .inl q
    | inr q => exact .inr ⟨q, PySem.W.cellsFrom_some _ _ _ (.inl q)⟩
  refine codeAny_call_function room.depth (KS _ _ look) rfl S.co S.gen rfl (PySem.W.codeRec_of KS cdOk) (bound _ _ _ _ ?_)
  refine wpAny_newFunctionEnv_cells S.kind parL ?_
  rintro env rfl s1 y
  refine ⟨(z.mod.nolimit.keeps held).keeps y.toInCall.keep, codeAny_func ?_⟩
  obtain ⟨t, ht, ends⟩ := hb A fr s H vs Q E hg (room.deeper _) told
  have I := inv_start (CX := CX0) (P := P) (mg := mg) (E := E) S room.hd z (many _ _ _ _ told) rv y
  refine wpAny_mono (ht.nox.run [] s1 (start N vs) H _ I ends) ?_ (fun _ _ q => q)
  intro fl s2 hs
  cases fl with
  | ret u => obtain ⟨v, σ2, H2, J, r2, q⟩ := hs; exact ⟨v, H2, J.os, J.bare, J.base, J.hok, r2, q⟩
  | next => obtain ⟨σ2, H2, J, q⟩ := hs; exact ⟨V.non, H2, J.os, J.bare, J.base, J.hok, rfl, q⟩
  | brk => obtain ⟨_, _, _, q⟩ := hs; exact q.elim
  | cont => obtain ⟨_, _, _, q⟩ := hs; exact q.elim
end
/-! ### use, odds -/
abbrev nUse : List Str := ["_law_word"]
theorem scUse : FnScope nUse ["_law_word"] (defScope (topS 29)) := ⟨rfl, rfl, rfl, by decide +kernel, rfl, by decide +kernel, by decide +kernel⟩
abbrev nOdds : List Str := []
theorem scOdds : FnScope nOdds [] (defScope (topS 30)) := ⟨rfl, rfl, rfl, by decide +kernel, rfl, by decide +kernel, by decide +kernel⟩
def spUse : Sp := fun vs H Q _ => ∃ x : V, vs = [x] ∧ ∀ p, H p = none → Q (.ref p) (upd H p (.tup [.str "no", .str "use", x, .int (-1)]))
def odds : List PyData := [.none, .bool true, .int 0, .str "", .str "nobody", .str "A", .str "a b", .str "abcdefghi", .tuple [], .tuple [.str "a"], .list [.str "a"], .tuple [.str "a", .int 1, .bool false, .tuple []], .int (10 ^ (59 : Int).toNat)]
def spOdds (K : PySem.W.Frag) : Sp := fun vs H Q _ => vs = [] ∧ ∀ (L : Addr) (xs : List V) (H' : Hp), Same H H' → H' L = some (.lst xs) → DpAll K H' xs odds → Q (.ref L) H'
section
variable {P : Program} {w : World} {K : PySem.W.Frag} {mg : Str → Option Value} {base : Heap}
theorem ok_use {f : Addr} {fd : FuncData} (F : Fun K "_law_use" "_law_use" (topS 29) f fd) : FnOk P w K mg base CX0 1 f fd ["_law_word"] spUse := by
  refine F.ok scUse (fun vs H Q E h => ?_) (fun cdv A outer s H vs Q E hr h => ?_)
  · obtain ⟨x, rfl, _⟩ := h
    rfl
  · obtain ⟨x, rfl, q⟩ := h
    refine ⟨_, pss_one (ps_ret (pe_tup (pa_cons pe_str (pa_cons pe_str (pa_cons (pv 0) (pa_cons (pe_un un_neg pe_int) pa_nil)))))), ?_⟩
    exact ⟨x, rfl, 1, rfl, (show 4 ≤ sizeLine by decide), q⟩
theorem ok_odds {f : Addr} {fd : FuncData} (F : Fun K "_law_odds" "_law_odds" (topS 30) f fd) : FnOk P w K mg base CX0 1 f fd [] (spOdds K) := by
  refine F.ok scOdds (fun vs H Q E h => ?_) (fun cdv A outer s H vs Q E hr h => ?_)
  · obtain ⟨rfl, _⟩ := h
    rfl
  · obtain ⟨rfl, q⟩ := h
    refine ⟨_, pss_one (ps_ret (pe_lst (pa_cons pe_non (pa_cons pe_bl (pa_cons pe_int (pa_cons pe_str (pa_cons pe_str (pa_cons pe_str (pa_cons pe_str (pa_cons pe_str (pa_cons (pe_tup pa_nil) (pa_cons (pe_tup (pa_cons pe_str pa_nil)) (pa_cons (pe_lst (pa_cons pe_str pa_nil))
      (pa_cons (pe_tup (pa_cons pe_str (pa_cons pe_int (pa_cons pe_bl (pa_cons (pe_tup pa_nil) pa_nil))))) (pa_cons (pe_op op_pow pe_int pe_int) pa_nil))))))))))))))), ?_⟩
    refine ⟨Nat.zero_le _, fun e1 n1 => ⟨(show 1 ≤ sizeLine by decide), fun e2 n2 => ⟨(show 1 ≤ sizeLine by decide), fun e3 n3 => ⟨Nat.zero_le _, fun e4 n4 => ⟨(show 4 ≤ sizeLine by decide), fun e5 n5 => ?_⟩⟩⟩⟩⟩
    refine ⟨10, 59, rfl, rfl, ⟨by decide, by decide, by decide⟩, (show 13 ≤ sizeLine by decide), fun L nL => ?_⟩
    have s1 : Same H (upd H e1 (.tup [])) := same_new n1
    have s2 := same_new (o := .tup [.str "a"]) n2
    have s3 := same_new (o := .lst [.str "a"]) n3
    have s4 := same_new (o := .tup []) n4
    have s5 := same_new (o := .tup [.str "a", .int 1, .bl false, .ref e4]) n5
    have sL := same_new (o := .lst [.non, .bl true, .int 0, .str "", .str "nobody", .str "A", .str "a b", .str "abcdefghi", .ref e1, .ref e2, .ref e3, .ref e5, .int (10 ^ (59 : Int).toNat)]) nL
    refine q L _ _ (((((s1.trans s2).trans s3).trans s4).trans s5).trans sL) upd_same ?_
    refine .cons .non (.cons (.bl _) (.cons (.int _) (.cons (.str _) (.cons (.str _) (.cons (.str _) (.cons (.str _) (.cons (.str _) (.cons (.tup ?_ .nil) (.cons (.tup ?_ (.cons (.str _) .nil)) (.cons (.lst ?_ (.cons (.str _) .nil)) (.cons (.tup (xs := [.str "a", .int 1, .bl false, .ref e4]) ?_ (.cons (.str _) (.cons (.int _) (.cons (.bl _) (.cons (.tup ?_ .nil) .nil))))) (.cons (.int _) .nil))))))))))))
    · exact tupS ((((s2.trans s3).trans s4).trans s5).trans sL) (.inl (.inl upd_same))
    · exact tupS (((s3.trans s4).trans s5).trans sL) (.inl (.inl upd_same))
    · exact ((s4.trans s5).trans sL).seq (.inl (.inl upd_same))
    · exact tupS sL (.inl (.inl upd_same))
    · exact tupS (s5.trans sL) (.inl (.inl upd_same))
end
end Kn


namespace Kn
open PySem PySem.Spec PyProof.Rows L2
structure Def (K : PySem.W.Frag) (mg : Str → Option Value) (x : Str) (i : Nat) (ps : List Str) (f : Addr) (fd : FuncData) : Prop where
  F : Fun K x x (topS i) f fd
  b : Binds K fd ps []
  m : mg x = some (.ref f)
abbrev nAsc : List Str := ["things"]
theorem scAsc : FnScope nAsc ["things"] (defScope (topS 12)) := ⟨rfl, rfl, rfl, by decide +kernel, rfl, by decide +kernel, by decide +kernel⟩
abbrev nNames : List Str := ["web", "row"]
theorem scNames : FnScope nNames ["web"] (defScope (topS 14)) := ⟨rfl, rfl, rfl, by decide +kernel, rfl, by decide +kernel, by decide +kernel⟩
abbrev nLess : List Str := ["row", "other", "name", "fee", "has", "table", "entry"]
theorem scLess : FnScope nLess ["row", "other"] (defScope (topS 17)) := ⟨rfl, rfl, rfl, by decide +kernel, rfl, by decide +kernel, by decide +kernel⟩
abbrev nWithRow : List Str := ["web", "row", "kinds", "asker", "old"]
theorem scWithRow : FnScope nWithRow ["web", "row"] (defScope (topS 20)) := ⟨rfl, rfl, rfl, by decide +kernel, rfl, by decide +kernel, by decide +kernel⟩
def spAsc (K : PySem.W.Frag) : Sp := fun vs H Q _ => ∃ (l : Addr) (xs : List Str), vs = [.ref l] ∧ SqL K H l (xs.map V.str) ∧ xs.length < 64 ∧ ∀ (ys : List Str) (p : Addr) (H' : Hp), ys.Perm (gathered xs) → sortedS ys = true → Same H H' → H' p = some (.tup (ys.map V.str)) → Q (.ref p) H'
def spNames (K : PySem.W.Frag) : Sp := fun vs H Q _ => ∃ (v : V) (g : Pg), vs = [v] ∧ PgAt K H v g ∧ g.ok ∧ ∀ (p : Addr) (H' : Hp), Same H H' → H p = none → H' p = some (.tup (g.es.map fun e => V.str e.name)) → Q (.ref p) H'
/-- a kind without a name in its table -/
def lessE (e : Ent) (m : Str) : Ent := ⟨e.name, e.fee, e.has, e.row.filter fun s => !decide (s = m)⟩
def spLess (K : PySem.W.Frag) : Sp := fun vs H Q _ => ∃ (r : V) (e : Ent) (m : Str), vs = [r, .str m] ∧ EntAt K H r e ∧ e.row.length ≤ 8 ∧ ∀ (r' : V) (H' : Hp), Same H H' → EntAt K H' r' (lessE e m) → Q r' H'
def put (g : Pg) (e : Ent) : Pg := ⟨g.es.map fun o => if o.name = e.name then e else o, g.asks⟩
def spPut (K : PySem.W.Frag) : Sp := fun vs H Q _ => ∃ (v r : V) (g : Pg) (e : Ent), vs = [v, r] ∧ PgAt K H v g ∧ g.ok ∧ EntAt K H r e ∧ ∀ (v' : V) (H' : Hp), Same H H' → PgAt K H' v' (put g e) → Q v' H'
inductive Out where
  | yes (g : Pg)
  | no (w : Str)
def NoUse (D : Addr) (w : Str) (H : Hp) (E : XK) : Prop := ∀ dd, H dd = none → E (.ref D) (some dd) (upd H dd (.xd [("at", .int (-1)), ("word", .str w)]))
def Res (K : PySem.W.Frag) (D : Addr) (H : Hp) (Q : VK) (E : XK) : Out → Prop
  | .yes g => ∀ (v : V) (H' : Hp), Same H H' → PgAt K H' v g → Q v H'
  | .no w => ∀ H1, Same H H1 → NoUse D w H1 E
def byD (g : Pg) (d : PyData) : Option Ent := g.es.find? fun e => PyData.eqv (.str e.name) d
theorem byD_some {g : Pg} {d : PyData} {e : Ent} (h : byD g d = some e) : First g d e := by
  obtain ⟨a, i, hi, b, c⟩ := List.find?_eq_some_iff_getElem.mp h
  refine ⟨i, by rw [List.getElem?_eq_getElem hi, b], a, fun j e' hj he' => ?_⟩
  obtain ⟨hl, rfl⟩ := List.getElem?_eq_some_iff.mp he'
  simpa using c j hj
theorem byD_none {g : Pg} {d : PyData} (h : byD g d = none) : Nobody g d := fun e he => by
  simpa using List.find?_eq_none.mp h e he
section
variable {P : Program} {w : World} {K : PySem.W.Frag} {mg : Str → Option Value} {base : Heap}
theorem raise_read {D : Addr} {H : Hp} {x : Str} {W : Value → Option Addr → Hp → Prop} {E : XK} (q : ∀ dd, H dd = none → W (.ref D) (some dd) (upd H dd (.xd [("at", .int (-1)), ("word", .str x)]))) :
    ∀ a, H a = none → spInit K D [.ref a, .str x, .int (-1)] (upd H a (exo a D none)) (fun v H2 => v = .non ∧ ∃ (d : Addr) (fs : List (Str × V)), H2 a = some (exo a D (some d)) ∧ H2 d = some (exd d fs) ∧ H d = none ∧ W (.ref D) (some d) (upd (del H2 a) d (.xd fs))) E := by
  intro a ha
  refine ⟨a, .str x, .int (-1), rfl, upd_same, fun dx nd ne => ⟨rfl, dx, _, ?_, upd_same, ?_, ?_⟩⟩
  · rw [upd_ne ne.symm, upd_same]
  · rw [upd_ne ne] at nd
    exact nd
  · rw [upd_ne ne] at nd
    rw [made_raise ha ne]
    exact q dx nd
abbrev rItem : Pg → Ent → V → Hp → VK → Prop := fun _ _ r H Q => Q r H
theorem ok_asc {f : Addr} {fd : FuncData} (F : Fun K "ascending" "ascending" (topS 12) f fd) (mt : mg "tuple" = none) (mo : mg "sorted" = none) (me : mg "set" = none) : FnOk P w K mg base CX0 1 f fd ["things"] (spAsc K) := by
  refine F.ok scAsc (fun vs H Q E h => ?_) (fun cdv A outer s H vs Q E hr h => ?_)
  · obtain ⟨l, xs, rfl, _⟩ := h
    rfl
  · obtain ⟨l, xs, rfl, hl, few, q⟩ := h
    refine ⟨_, pss_one (ps_ret (pe_callTy call_tuple_of (by rfl) mt boot_tuple (pa_cons (pe_callB (cr_sortedTx (by rfl)) (by rfl) mo (by decide +kernel) (pa_cons (pe_callTy (cr_setTx (by rfl)) (by rfl) me (by decide +kernel) (pa_cons (pv 0) pa_nil)) pa_nil)) pa_nil))), ?_⟩
    refine ⟨.ref l, rfl, l, xs, rfl, hl, by omega, fun p1 n1 => ?_⟩
    have s1 : Same H (upd H p1 (SetTx w p1 (gathered xs))) := same_new n1
    refine ⟨p1, gathered xs, rfl, upd_same, Nat.lt_of_le_of_lt (len_gathered xs) few, fun ys p2 pm so n2 => ?_⟩
    have s2 := s1.trans (same_new (o := .lst (ys.map V.str)) n2)
    refine ⟨p2, _, rfl, .inl ⟨.inl (.inl upd_same), fun p3 n3 => ?_⟩⟩
    exact q ys p3 _ pm so (s2.trans (same_new n3)) upd_same
theorem filter_pick (m : Str) : ∀ t : List Str, ((t.map fun s => (!decide (s = m), V.str s)).filter (·.1)).map (·.2) = (t.filter fun s => !decide (s = m)).map V.str
  | [] => rfl
  | a :: r => by
    have ih := filter_pick m r
    rw [List.map_cons, List.filter_cons, List.filter_cons]
    dsimp only
    cases hq : !decide (a = m)
    · rw [if_neg Bool.false_ne_true, if_neg Bool.false_ne_true]
      exact ih
    · rw [if_pos rfl, if_pos rfl, List.map_cons, List.map_cons, ih]
theorem ok_less {f : Addr} {fd : FuncData} (F : Fun K "without_name" "without_name" (topS 17) f fd) (mt : mg "tuple" = none) : FnOk P w K mg base CX0 1 f fd ["row", "other"] (spLess K) := by
  refine F.ok scLess (fun vs H Q E h => ?_) (fun cdv A outer s H vs Q E hr h => ?_)
  · obtain ⟨r, e, m, rfl, _⟩ := h
    rfl
  · obtain ⟨r, e, m, rfl, hv, few, q⟩ := h
    obtain ⟨p1, r1, rfl, hp1, hr1⟩ := id hv
    refine ⟨_, pss_cons (ps_asg (pv 0) (pg_tup (by rfl) (pgs_cons (pg_name (i := 2) scLess.nd rfl (.inl rfl)) (pgs_cons (pg_name (i := 3) scLess.nd rfl (.inl rfl)) (pgs_cons (pg_name (i := 4) scLess.nd rfl (.inl rfl)) (pgs_cons (pg_name (i := 5) scLess.nd rfl (.inl rfl)) pgs_nil))))))
      (pss_one (ps_ret (pe_tup (pa_cons (pv 2) (pa_cons (pv 3) (pa_cons (pv 4) (pa_cons (pe_callTy call_tuple_of (by rfl) mt boot_tuple (pa_cons (pe_lc (own := [("entry", 6)]) (g := gName 6) (by rfl) scLess.nd (pi_tup (pv 5)) (blkOk_by (own := [("entry", 6)]) (N := nLess) (sc := defScope (topS 17)) (by decide +kernel))
        (fun _ _ _ _ _ => pg_name (i := 6) scLess.nd rfl (Or.inl rfl)) (fun _ _ _ _ _ => pts_one (pt_cmpR op_ne (pv 6) (pv 1) (nomark _))) (fun _ _ _ _ _ => pv 6)) pa_nil)) pa_nil))))))), ?_⟩
    refine ⟨.ref p1, rfl, p1, _, rfl, hp1, rfl, _, _, rfl, _, _, rfl, _, _, rfl, _, _, rfl, rfl, _, rfl, _, rfl, _, rfl, ?_⟩
    dsimp only [tRet, tCB, tCons, tTup, gName, tC]
    refine lc_pickT (K := K) (a := r1) (xs := e.row.map V.str) (e.row.map fun s => (!decide (s = m), V.str s)) (by simp) (by simp; omega) hr1 (fun R k => ⟨_, rfl, k⟩) (fun v => rfl) ?_ ?_ ?_
    · intro i x b y G R hx hy sm k
      obtain ⟨a, ha, rfl⟩ := map_get hx
      obtain ⟨a', ha', ey⟩ := map_get hy
      obtain rfl : a = a' := Option.some.inj (ha.symm.trans ha')
      cases ey
      refine ⟨_, rfl, _, rfl, rfl, _, rfl, ?_⟩
      have e2 : decide (V.str a = V.str m) = decide (a = m) := by
        by_cases z : a = m
        · rw [decide_eq_true z, decide_eq_true (congrArg V.str z)]
        · rw [decide_eq_false z, decide_eq_false (fun y => z (V.str.inj y))]
      rw [e2]
      exact k
    · intro i x b y G R hx hy sm k
      obtain ⟨a, ha, rfl⟩ := map_get hx
      obtain ⟨a', ha', ey⟩ := map_get hy
      obtain rfl : a = a' := Option.some.inj (ha.symm.trans ha')
      cases ey
      exact ⟨_, rfl, k⟩
    · intro D G nD sm hD
      rw [filter_pick] at hD
      refine ⟨D, _, rfl, .inl ⟨.inl (.inl hD), fun t nt => ⟨(show 4 ≤ sizeLine by decide), fun u nu => ?_⟩⟩⟩
      have st := same_new (o := .tup ((e.row.filter fun s => !decide (s = m)).map V.str)) nt
      have su := same_new (o := .tup [.str e.name, .int e.fee, .bl e.has, .ref t]) nu
      exact q (.ref u) _ ((sm.trans st).trans su) ⟨u, t, rfl, .inl (.inl upd_same), tupS su (.inl (.inl upd_same))⟩
theorem ok_names {f : Addr} {fd : FuncData} (F : Fun K "names_of" "names_of" (topS 14) f fd) (mt : mg "tuple" = none) : FnOk P w K mg base CX0 1 f fd ["web"] (spNames K) := by
  refine F.ok scNames (fun vs H Q E h => ?_) (fun cdv A outer s H vs Q E hr h => ?_)
  · obtain ⟨v, g, rfl, _⟩ := h
    rfl
  · obtain ⟨v, g, rfl, ⟨p, r, ws, rfl, hp, hr', hE⟩, ok, q⟩ := h
    have lw := hE.len
    have l12 := ok.1
    refine ⟨_, pss_one (ps_ret (pe_callTy call_tuple_of (by rfl) mt boot_tuple (pa_cons (pe_lc (own := [("row", 1)]) (g := gName 1) (by rfl) scNames.nd (pi_tup (pe_ix ix_tup (pv 0) pe_int (fun _ _ => rfl))) (blkOk_by (own := [("row", 1)]) (N := nNames) (sc := defScope (topS 14)) (by decide +kernel))
      (fun _ _ _ _ _ => pg_name (i := 1) scNames.nd rfl (Or.inl rfl)) (fun _ _ _ _ _ => pts_nil) (fun _ _ _ _ _ => pe_ix (r := rIxT K) ix_tup (pv 1) pe_int (fun _ _ => rfl))) pa_nil))), ?_⟩
    unfold tRet tCB tCons
    refine lc_mapT (a := r) (xs := ws) (g.es.map fun e => V.str e.name) (by simp; omega) (by omega) hr' (fun R k => ⟨.ref p, rfl, p, _, 0, .ref r, rfl, rfl, hp, atI_nat (j := 0) rfl, k⟩) (fun v => rfl) ?_ ?_
    · intro i x y G R hx hy sm k
      obtain ⟨e, he, hv⟩ := hE.get hx
      obtain ⟨e', he', rfl⟩ := map_get hy
      obtain rfl : e = e' := Option.some.inj (he.symm.trans he')
      obtain ⟨p1, r1, rfl, hp1, hr1⟩ := hv.same sm
      exact ⟨.ref p1, rfl, p1, _, 0, _, rfl, rfl, hp1, atI_nat (j := 0) rfl, k G (Same.refl G)⟩
    · intro D G nD sm hD
      exact ⟨D, _, rfl, .inl ⟨.inl (.inl hD), fun t nt => q t _ (putS sm (sm.free nt)) (sm.free nt) upd_same⟩⟩
theorem EntsAt.put {H : Hp} {r : V} {e : Ent} (hr : EntAt K H r e) : ∀ {vs : List V} {es : List Ent}, EntsAt K H vs es → EntsAt K H ((vs.zip es).map fun p => if p.2.name = e.name then r else p.1) (es.map fun o => if o.name = e.name then e else o)
  | _, _, .nil => .nil
  | _, _, .cons (e := o) a b => by
    rw [List.zip_cons_cons, List.map_cons, List.map_cons]
    refine .cons ?_ (EntsAt.put hr b)
    dsimp only
    split
    · exact hr
    · exact a
theorem ok_put {f : Addr} {fd : FuncData} (F : Fun K "with_row" "with_row" (topS 20) f fd) (mt : mg "tuple" = none) : FnOk P w K mg base CX0 1 f fd ["web", "row"] (spPut K) := by
  refine F.ok scWithRow (fun vs H Q E h => ?_) (fun cdv A outer s H vs Q E hr h => ?_)
  · obtain ⟨v, r, g, e, rfl, _⟩ := h
    rfl
  · obtain ⟨v, r, g, e, rfl, hP, ok, hr', q⟩ := h
    obtain ⟨pp, pq, ws, rfl, hp, hw, hE⟩ := id hP
    have lw := hE.len
    have o1 := ok.1
    refine ⟨_, pss_cons (ps_asg (pv 0) (pg_tup (by rfl) (pgs_cons (pg_name (i := 2) scWithRow.nd rfl (.inl rfl)) (pgs_cons (pg_name (i := 3) scWithRow.nd rfl (.inl rfl)) pgs_nil))))
      (pss_one (ps_ret (pe_tup (pa_cons (pe_callTy call_tuple_of (by rfl) mt boot_tuple (pa_cons (pe_lc (own := [("old", 4)]) (g := gName 4) (by rfl) scWithRow.nd (pi_tup (pv 2)) (blkOk_by (own := [("old", 4)]) (N := nWithRow) (sc := defScope (topS 20)) (by decide +kernel))
        (fun _ _ _ _ _ => pg_name (i := 4) scWithRow.nd rfl (Or.inl rfl)) (fun _ _ _ _ _ => pts_nil) (fun _ _ _ _ _ => pe_ifExp (pt_cmpR (r := rEq) op_eq (pe_ix (r := rIxT K) ix_tup (pv 4) pe_int (fun _ _ => rfl)) (pe_ix (r := rIxT K) ix_tup (pv 1) pe_int (fun _ _ => rfl)) (by rfl)) (pv 1) (pv 4))) pa_nil)) (pa_cons (pv 3) pa_nil))))), ?_⟩
    obtain ⟨p1, r1, rfl, hp1, hr1⟩ := id hr'
    refine ⟨.ref pp, rfl, pp, _, rfl, hp, rfl, _, _, rfl, _, _, rfl, rfl, ?_⟩
    dsimp only [tRet, tCB, tCons, tTup, gName]
    refine lc_mapT (a := pq) (xs := ws) ((ws.zip g.es).map fun p => if p.2.name = e.name then .ref p1 else p.1) (by simp; omega) (by omega) hw (fun R k => ⟨_, rfl, k⟩) (fun v => rfl) ?_ ?_
    · intro i x y G R hx hy sm k
      obtain ⟨o, ho, hv⟩ := hE.get hx
      obtain ⟨⟨x', o'⟩, hz, rfl⟩ := map_get hy
      obtain ⟨hx', ho'⟩ := List.getElem?_zip_eq_some.mp hz
      obtain rfl : x = x' := Option.some.inj (hx.symm.trans hx')
      obtain rfl : o = o' := Option.some.inj (ho.symm.trans ho')
      obtain ⟨p2, r2, rfl, hp2, hr2⟩ := hv.same sm
      refine ⟨.ref p2, rfl, p2, _, 0, _, rfl, rfl, hp2, atI_nat (j := 0) rfl, .ref p1, rfl, p1, _, 0, _, rfl, rfl, tupS sm hp1, atI_nat (j := 0) rfl, rfl, _, rfl, ?_⟩
      have k2 := k G (Same.refl G)
      dsimp only at k2
      by_cases z : o.name = e.name
      · rw [if_pos z] at k2
        rw [decide_eq_true (show V.str o.name = V.str e.name from congrArg V.str z)]
        exact iteT ⟨_, rfl, k2⟩
      · rw [if_neg z] at k2
        rw [decide_eq_false (show ¬ V.str o.name = V.str e.name from fun y => z (V.str.inj y))]
        exact iteF ⟨_, rfl, k2⟩
    · intro D G nD sm hD
      refine ⟨D, _, rfl, .inl ⟨.inl (.inl hD), fun t nt => ⟨_, rfl, (show 2 ≤ sizeLine by decide), fun u nu => ?_⟩⟩⟩
      have s1 : Same H (upd G t (.tup ((ws.zip g.es).map fun p => if p.2.name = e.name then V.ref p1 else p.1))) := sm.trans (same_new nt)
      have s2 := s1.trans (same_new (o := .tup [.ref t, .str g.asks]) nu)
      exact q (.ref u) _ s2 ⟨u, t, _, rfl, .inl (.inl upd_same), tupS (same_new nu) (.inl (.inl upd_same)), (EntsAt.put hr' hE).same s2⟩
end
end Kn


namespace Kn
open PySem PySem.Spec PyProof.Rows L2
/-! ### a name more in a rising row -/
def ins (m : Str) : List Str → List Str
  | [] => [m]
  | x :: r => if ltCps m.cps.toList x.cps.toList = true then m :: x :: r else x :: ins m r
theorem lt_ne {a b : Str} (ha : a ∈ names) (h : Lt a b) : b ≠ a := by
  have all : (names.all fun a => !ltCps a.cps.toList a.cps.toList) = true := by decide +kernel
  have q := List.all_eq_true.mp all a ha
  rintro rfl
  unfold Lt at h
  rw [h] at q
  cases q
theorem ins_perm (m : Str) : ∀ r : List Str, (ins m r).Perm (m :: r)
  | [] => List.Perm.refl _
  | x :: r => by
    unfold ins
    split
    · exact List.Perm.refl _
    · exact ((ins_perm m r).cons x).trans (List.Perm.swap _ _ _)
theorem ins_asc {m : Str} (hm : m ∈ names) : ∀ r : List Str, (∀ s ∈ r, s ∈ names) → Asc r → m ∉ r → Asc (ins m r)
  | [], _, _, _ => List.pairwise_singleton _ _
  | x :: r, hn, ha, no => by
    have hx := hn x (List.mem_cons_self ..)
    have ne : x ≠ m := fun z => no (z ▸ List.mem_cons_self ..)
    obtain ⟨h1, h2⟩ := List.pairwise_cons.mp ha
    unfold ins
    split
    · rename_i lt
      refine List.pairwise_cons.mpr ⟨fun y hy => ?_, ha⟩
      rcases List.mem_cons.mp hy with rfl | hy
      · exact lt
      · exact lt_trans hm hx (hn y (List.mem_cons_of_mem _ hy)) lt (h1 y hy)
    · rename_i nl
      have lxm : Lt x m := lt_total hx hm ne (Bool.eq_false_iff.mpr nl)
      refine List.pairwise_cons.mpr ⟨fun y hy => ?_, ins_asc hm r (fun s hs => hn s (List.mem_cons_of_mem _ hs)) h2 fun z => no (List.mem_cons_of_mem _ z)⟩
      rcases List.mem_cons.mp ((ins_perm m r).mem_iff.mp hy) with rfl | hy
      · exact lxm
      · exact h1 y hy
theorem asc_one : ∀ xs ys : List Str, Asc xs → Asc ys → (∀ s ∈ xs, s ∈ names) → xs.Perm ys → xs = ys
  | [], ys, _, _, _, p => (List.Perm.nil_eq p)
  | x :: xs, [], _, _, _, p => absurd p.length_eq (by simp)
  | x :: xs, y :: ys, ax, ay, hn, p => by
    have hx := hn x (List.mem_cons_self ..)
    have hy : y ∈ names := hn y (p.mem_iff.mpr (List.mem_cons_self ..))
    have e : x = y := by
      rcases List.mem_cons.mp (p.mem_iff.mp (List.mem_cons_self ..)) with e | m1
      · exact e
      rcases List.mem_cons.mp (p.mem_iff.mpr (List.mem_cons_self ..)) with e | m2
      · exact e.symm
      exact absurd rfl (lt_ne hx (lt_trans hx hy hx ((List.pairwise_cons.mp ax).1 y m2) ((List.pairwise_cons.mp ay).1 x m1)))
    subst e
    rw [asc_one xs ys (List.pairwise_cons.mp ax).2 (List.pairwise_cons.mp ay).2 (fun s hs => hn s (List.mem_cons_of_mem _ hs)) (List.Perm.cons_inv p)]
theorem asc_nodup {r : List Str} (hn : ∀ s ∈ r, s ∈ names) (h : Asc r) : r.Nodup := by
  induction r with
  | nil => exact List.nodup_nil
  | cons x r ih =>
    obtain ⟨h1, h2⟩ := List.pairwise_cons.mp h
    exact List.nodup_cons.mpr ⟨fun m => absurd rfl (lt_ne (hn x (List.mem_cons_self ..)) (h1 x m)), ih (fun s hs => hn s (List.mem_cons_of_mem _ hs)) h2⟩
theorem ins_only {m : Str} {r ys : List Str} (hm : m ∈ names) (hn : ∀ s ∈ r, s ∈ names) (ha : Asc r) (no : m ∉ r) (p : ys.Perm (m :: r)) (so : sortedS ys = true) : ys = ins m r := by
  have nd : (m :: r).Nodup := List.nodup_cons.mpr ⟨no, asc_nodup hn ha⟩
  have hy : ∀ s ∈ ys, s ∈ names := fun s hs => by
    rcases List.mem_cons.mp (p.mem_iff.mp hs) with rfl | h
    · exact hm
    · exact hn s h
  exact asc_one ys _ (asc_sorted so (p.nodup_iff.mpr nd) hy) (ins_asc hm r hn ha no) hy (p.trans (ins_perm m r).symm)
theorem gathered_perm {m : Str} {r : List Str} (nd : (m :: r).Nodup) : (gathered (r ++ [m])).Perm (m :: r) :=
  (List.perm_ext_iff_of_nodup (nodup_gathered _) nd).mpr fun x => by
    rw [mem_gathered, List.mem_append, List.mem_singleton, List.mem_cons]
    exact Or.comm
theorem ins_mem {m s : Str} {r : List Str} : s ∈ ins m r ↔ s = m ∨ s ∈ r := by rw [(ins_perm m r).mem_iff, List.mem_cons]
theorem ins_len (m : Str) (r : List Str) : (ins m r).length = r.length + 1 := (ins_perm m r).length_eq
def moreE (e : Ent) (m : Str) : Ent := ⟨e.name, e.fee, e.has, ins m e.row⟩
structure Pg.neat (g : Pg) : Prop where
  ok : g.ok
  nm : ∀ e ∈ g.es, e.name ∈ names
  row : ∀ e ∈ g.es, (∀ s ∈ e.row, s ∈ names) ∧ Asc e.row ∧ e.row.length ≤ 7
theorem names_shaped : ∀ y ∈ names, SeqAt.shaped (.str y) = true := by
  have all : (names.all fun y => SeqAt.shaped (.str y)) = true := by decide +kernel
  exact List.all_eq_true.mp all
theorem Pg.neat.sh {g : Pg} (h : g.neat) : ∀ e ∈ g.es, SeqAt.shaped (.str e.name) = true := fun e he => names_shaped _ (h.nm e he)
def outMore (g : Pg) (dk dm : PyData) : Out := match byD g dk with
  | none => .no "kind"
  | some e => match dm with
    | .str m => if m ∈ g.es.map (·.name) ∧ m ∉ e.row then .yes (put g (moreE e m)) else .no "other"
    | _ => .no "other"
def outLess (g : Pg) (dk dm : PyData) : Out := match byD g dk with
  | none => .no "kind"
  | some e => match dm with
    | .str m => if m ∈ e.row then .yes (put g (lessE e m)) else .no "other"
    | _ => .no "other"
theorem outMore_no {g : Pg} {dk dm : PyData} {e : Ent} (h : byD g dk = some e) (n : (!hasT (g.es.map (·.name)) dm) = true ∨ hasT e.row dm = true) : outMore g dk dm = .no "other" := by
  unfold outMore
  rw [h]
  cases dm with
  | str m =>
    dsimp only
    rw [hasT_str, hasT_str] at n
    rw [if_neg]
    rintro ⟨a, b⟩
    rcases n with n | n
    · rw [decide_eq_true a] at n
      cases n
    · exact b (of_decide_eq_true n)
  | _ => rfl
theorem outLess_no {g : Pg} {dk dm : PyData} {e : Ent} (h : byD g dk = some e) (n : hasT e.row dm = false) : outLess g dk dm = .no "other" := by
  unfold outLess
  rw [h]
  cases dm with
  | str m =>
    dsimp only
    rw [hasT_str] at n
    rw [if_neg (of_decide_eq_false n)]
  | _ => rfl
def sp3 (K : PySem.W.Frag) (D : Addr) (out : Pg → PyData → PyData → Out) : Sp := fun vs H Q E => ∃ (v k x : V) (g : Pg) (dk dx : PyData), vs = [v, k, x] ∧ PgAt K H v g ∧ g.neat ∧ Dp K H k dk ∧ SeqAt.shaped dk = true ∧ Dp K H x dx ∧ SeqAt.shaped dx = true ∧ Res K D H Q E (out g dk dx)
abbrev nMore : List Str := ["web", "kind", "other", "name", "fee", "has", "table"]
theorem scMore : FnScope nMore ["web", "kind", "other"] (defScope (topS 18)) := ⟨rfl, rfl, rfl, by decide +kernel, rfl, by decide +kernel, by decide +kernel⟩
abbrev nWithout : List Str := ["web", "kind", "other", "row"]
theorem scWithout : FnScope nWithout ["web", "kind", "other"] (defScope (topS 19)) := ⟨rfl, rfl, rfl, by decide +kernel, rfl, by decide +kernel, by decide +kernel⟩
theorem nm_map (g : Pg) : (g.es.map fun e => V.str e.name) = (g.es.map (·.name)).map V.str := by
  rw [List.map_map]
  rfl
section
variable {P : Program} {w : World} {K : PySem.W.Frag} {mg : Str → Option Value} {base : Heap}
theorem ok_more {f fF fN fC fA fI D : Addr} {fd dF dN dC dA dI : FuncData} (F : Fun K "with_arrow" "with_arrow" (topS 18) f fd) (T : ErrM K mg D fI dI)
    (A : Def K mg "form_of" 15 ["web", "kind"] fF dF) (OA : FnOk P w K mg base (L2.CX P w) 3 fF dF ["web", "kind"] (spBy K D rItem))
    (N : Def K mg "names_of" 14 ["web"] fN dN) (ON : FnOk P w K mg base CX0 1 fN dN ["web"] (spNames K))
    (S : Def K mg "ascending" 12 ["things"] fA dA) (OS : FnOk P w K mg base CX0 1 fA dA ["things"] (spAsc K))
    (C : Def K mg "with_row" 20 ["web", "row"] fC dC) (OC : FnOk P w K mg base CX0 1 fC dC ["web", "row"] (spPut K)) :
    FnOk P w K mg base (L2.CX P w) 4 f fd ["web", "kind", "other"] (sp3 K D outMore) := by
  have GI : FnOk P w K mg base CX0 1 fI dI ["self", "word", "at"] (spInit K D) := ok_init T
  refine F.okX scMore (fun vs H Q E h => ?_) (fun cdv A' outer s H vs Q E hr h => ?_)
  · obtain ⟨v, k, x, g, dk, dx, rfl, _⟩ := h
    rfl
  · obtain ⟨v, k, x, g, dk, dx, rfl, hP, nt, hk, hs, hx, hsx, res⟩ := h
    have hr1 : Room 1 _ := hr.mono (by decide)
    have hr2 : Room 2 _ := hr.mono (by decide)
    refine ⟨_, pss_cons (ps_asg (pe_call OA hr (by rfl) A.m A.F.kp A.b .nil (passes_call (takes_of rfl rfl rfl rfl) (fun _ _ _ _ h => h)) (pa_cons (pv 0) (pa_cons (pv 1) pa_nil)))
        (pg_tup (by rfl) (pgs_cons (pg_name (i := 3) scMore.nd rfl (.inl rfl)) (pgs_cons (pg_name (i := 4) scMore.nd rfl (.inl rfl)) (pgs_cons (pg_name (i := 5) scMore.nd rfl (.inl rfl)) (pgs_cons (pg_name (i := 6) scMore.nd rfl (.inl rfl)) pgs_nil))))))
      (pss_cons (ps_if (PW.pt (pw_or (pt_cmpR (op_notInT hr.units) (pv 2) (pe_call ON hr1 (by rfl) N.m N.F.kp N.b .nil pass0 (pa_cons (pv 0) pa_nil)) (by rfl)) (pw_or1 (pt_cmpR (op_inT hr.units) (pv 2) (pv 6) (by rfl)))))
        (pss_one (ps_raise rfl (takes_of rfl rfl rfl rfl) (pmk_oex T.x T.i T.t GI hr2 T.b .nil pass0 rfl T.m (pa_cons pe_str (pa_cons (pe_un un_neg pe_int) pa_nil))))) pss_nil)
      (pss_one (ps_ret (pe_call OC hr1 (by rfl) C.m C.F.kp C.b .nil pass0 (pa_cons (pv 0) (pa_cons (pe_tup (pa_cons (pv 3) (pa_cons (pv 4) (pa_cons (pv 5) (pa_cons (pe_call OS hr1 (by rfl) S.m S.F.kp S.b .nil pass0 (pa_cons (pe_lst (StX.pa_star (pv 6) (pa_cons (pv 2) pa_nil))) pa_nil)) pa_nil))))) pa_nil)))))), ?_⟩
    refine ⟨v, rfl, k, rfl, v, k, g, dk, rfl, hP, nt.ok, nt.sh, hk, hs, ?_⟩
    cases hb : byD g dk with
    | none =>
      unfold outMore at res
      rw [hb] at res
      exact .inr ⟨byD_none hb, res H (Same.refl H)⟩
    | some e =>
      have he : e ∈ g.es := List.mem_of_find?_eq_some hb
      obtain ⟨hr0, ha0, hl0⟩ := nt.row e he
      refine .inl ⟨e, byD_some hb, fun r hr' => ?_⟩
      obtain ⟨p1, r1, rfl, hp1, hr1'⟩ := id hr'
      refine ⟨p1, _, rfl, hp1, rfl, _, _, rfl, _, _, rfl, _, _, rfl, _, _, rfl, rfl, ?_⟩
      refine ⟨x, rfl, v, rfl, v, g, rfl, hP, nt.ok, fun pn H1 s1 nn hpn => ?_⟩
      rw [nm_map] at hpn
      refine ⟨pn, dx, g.es.map (·.name), rfl, .inl (.inl hpn), dpE (ext_same s1) hx, hsx, (fun t ht => by
        obtain ⟨o, ho, rfl⟩ := List.mem_map.mp ht
        exact nt.sh o ho), _, rfl, ?_⟩
      have bad : outMore g dk dx = .no "other" → NoUse D "other" H1 E := fun z => by
        rw [z] at res
        exact res H1 s1
      cases h1 : hasT (g.es.map (·.name)) dx with
      | false => exact iteT ⟨1, rfl, (show 2 ≤ 1000 by decide), raise_read (W := fun c d H' => E c d H') (bad (outMore_no hb (.inl (by rw [h1]; rfl))))⟩
      | true =>
        refine iteF ⟨x, rfl, .ref r1, rfl, r1, dx, e.row, rfl, tupS s1 hr1', dpE (ext_same s1) hx, hsx, (fun t ht => names_shaped t (hr0 t ht)), _, rfl, ?_⟩
        cases h2 : hasT e.row dx with
        | true => exact iteT ⟨1, rfl, (show 2 ≤ 1000 by decide), raise_read (W := fun c d H' => E c d H') (bad (outMore_no hb (.inr h2)))⟩
        | false =>
          obtain ⟨m, rfl, hm⟩ := hasT_true h1
          cases hx
          rw [hasT_str] at h2
          have no : m ∉ e.row := of_decide_eq_false h2
          have hmn : m ∈ names := by
            obtain ⟨o, ho, rfl⟩ := List.mem_map.mp hm
            exact nt.nm o ho
          unfold outMore at res
          rw [hb] at res
          dsimp only at res
          rw [if_pos ⟨hm, no⟩] at res
          refine iteF ⟨v, rfl, _, rfl, _, rfl, _, rfl, .ref r1, rfl, r1, _, rfl, .inl (tupS s1 hr1'), _, rfl, ?_⟩
          refine ⟨?_, fun l nl => ?_⟩
          · rw [List.length_append, List.length_map]
            exact Nat.le_trans (Nat.add_le_add_right hl0 1) (by decide)
          have sl := same_new (o := .lst (e.row.map V.str ++ [.str m])) nl
          refine ⟨l, e.row ++ [m], rfl, .inl (.inl (by rw [List.map_append]; exact upd_same)), ?_, fun ys p H2 pm so s2 hp2 => ⟨(show 4 ≤ sizeLine by decide), fun u nu => ?_⟩⟩
          · rw [List.length_append]
            exact Nat.lt_of_le_of_lt (Nat.add_le_add_right hl0 1) (by decide)
          have nd : (m :: e.row).Nodup := List.nodup_cons.mpr ⟨no, asc_nodup hr0 ha0⟩
          obtain rfl := ins_only hmn hr0 ha0 no (pm.trans (gathered_perm nd)) so
          have su := same_new (o := .tup [.str e.name, .int e.fee, .bl e.has, .ref p]) nu
          have sa := ((s1.trans sl).trans s2).trans su
          exact ⟨v, .ref u, g, moreE e m, rfl, hP.same sa, nt.ok, ⟨u, p, rfl, .inl (.inl upd_same), tupS su (.inl (.inl hp2))⟩, fun v' H' s' hv' => res v' H' (sa.trans s') hv'⟩
theorem ok_without {f fF fL fC fI D : Addr} {fd dF dL dC dI : FuncData} (F : Fun K "without_arrow" "without_arrow" (topS 19) f fd) (T : ErrM K mg D fI dI)
    (A : Def K mg "form_of" 15 ["web", "kind"] fF dF) (OA : FnOk P w K mg base (L2.CX P w) 3 fF dF ["web", "kind"] (spBy K D rItem))
    (L : Def K mg "without_name" 17 ["row", "other"] fL dL) (OL : FnOk P w K mg base CX0 1 fL dL ["row", "other"] (spLess K))
    (C : Def K mg "with_row" 20 ["web", "row"] fC dC) (OC : FnOk P w K mg base CX0 1 fC dC ["web", "row"] (spPut K)) :
    FnOk P w K mg base (L2.CX P w) 4 f fd ["web", "kind", "other"] (sp3 K D outLess) := by
  have GI : FnOk P w K mg base CX0 1 fI dI ["self", "word", "at"] (spInit K D) := ok_init T
  refine F.okX scWithout (fun vs H Q E h => ?_) (fun cdv A' outer s H vs Q E hr h => ?_)
  · obtain ⟨v, k, x, g, dk, dx, rfl, _⟩ := h
    rfl
  · obtain ⟨v, k, x, g, dk, dx, rfl, hP, nt, hk, hs, hx, hsx, res⟩ := h
    have hr1 : Room 1 _ := hr.mono (by decide)
    have hr2 : Room 2 _ := hr.mono (by decide)
    refine ⟨_, pss_cons (ps_set (i := 3) scWithout.nd rfl (.inl rfl) (pe_call OA hr (by rfl) A.m A.F.kp A.b .nil (passes_call (takes_of rfl rfl rfl rfl) (fun _ _ _ _ h => h)) (pa_cons (pv 0) (pa_cons (pv 1) pa_nil))))
      (pss_cons (ps_if (pt_cmpR (op_notInT hr.units) (pv 2) (pe_ix ix_tup (pv 3) pe_int (fun _ _ => rfl)) (by rfl))
        (pss_one (ps_raise rfl (takes_of rfl rfl rfl rfl) (pmk_oex T.x T.i T.t GI hr2 T.b .nil pass0 rfl T.m (pa_cons pe_str (pa_cons (pe_un un_neg pe_int) pa_nil))))) pss_nil)
      (pss_one (ps_ret (pe_call OC hr1 (by rfl) C.m C.F.kp C.b .nil pass0 (pa_cons (pv 0) (pa_cons (pe_call OL hr1 (by rfl) L.m L.F.kp L.b .nil pass0 (pa_cons (pv 3) (pa_cons (pv 2) pa_nil))) pa_nil)))))), ?_⟩
    refine ⟨v, rfl, k, rfl, v, k, g, dk, rfl, hP, nt.ok, nt.sh, hk, hs, ?_⟩
    cases hb : byD g dk with
    | none =>
      unfold outLess at res
      rw [hb] at res
      exact .inr ⟨byD_none hb, res H (Same.refl H)⟩
    | some e =>
      have he : e ∈ g.es := List.mem_of_find?_eq_some hb
      obtain ⟨hr0, ha0, hl0⟩ := nt.row e he
      refine .inl ⟨e, byD_some hb, fun r hr' => ?_⟩
      obtain ⟨p1, r1, rfl, hp1, hr1'⟩ := id hr'
      refine ⟨x, rfl, .ref p1, rfl, p1, _, 3, .ref r1, rfl, rfl, hp1, atI_nat (j := 3) rfl, r1, dx, e.row, rfl, hr1', hx, hsx, (fun t ht => names_shaped t (hr0 t ht)), _, rfl, ?_⟩
      cases h2 : hasT e.row dx with
      | false =>
        refine iteT ⟨1, rfl, (show 2 ≤ 1000 by decide), raise_read (W := fun c d H' => E c d H') ?_⟩
        rw [outLess_no hb h2] at res
        exact res H (Same.refl H)
      | true =>
        obtain ⟨m, rfl, hm⟩ := hasT_true h2
        cases hx
        unfold outLess at res
        rw [hb] at res
        dsimp only at res
        rw [if_pos hm] at res
        exact iteF ⟨v, rfl, .ref p1, rfl, _, rfl, .ref p1, e, m, rfl, hr', Nat.le_trans hl0 (by decide), fun r' H' s' hv' => ⟨v, r', g, lessE e m, rfl, hP.same s', nt.ok, hv', fun v' H'' s'' hv'' => res v' H'' (s'.trans s'') hv''⟩⟩
end
end Kn


namespace Kn
open PySem PySem.Spec PyProof.Rows L2
abbrev nLabOf : List Str := ["_law_page_here", "_law_entry_here"]
theorem scLabOf : FnScope nLabOf ["_law_page_here"] (defScope (topS 31)) := ⟨rfl, rfl, rfl, by decide +kernel, rfl, by decide +kernel, by decide +kernel⟩
abbrev nKnown : List Str := ["_law_page_here", "_law_item"]
theorem scKnown : FnScope nKnown ["_law_page_here", "_law_item"] (defScope (topS 32)) := ⟨rfl, rfl, rfl, by decide +kernel, rfl, by decide +kernel, by decide +kernel⟩
abbrev nEntry : List Str := ["_law_page_here", "_law_sign", "_law_entry_here"]
theorem scEntry : FnScope nEntry ["_law_page_here", "_law_sign"] (defScope (topS 33)) := ⟨rfl, rfl, rfl, by decide +kernel, rfl, by decide +kernel, by decide +kernel⟩
abbrev nPut : List Str := ["_law_page_here", "_law_entry_here", "_law_own"]
theorem scPut : FnScope nPut ["_law_page_here", "_law_entry_here"] (defScope (topS 34)) := ⟨rfl, rfl, rfl, by decide +kernel, rfl, by decide +kernel, by decide +kernel⟩
def spLabOf (K : PySem.W.Frag) : Sp := fun vs H Q _ => ∃ (v : V) (g : Pg), vs = [v] ∧ PgAt K H v g ∧ g.ok ∧ ∀ (L : Addr) (H' : Hp), Same H H' → H L = none → H' L = some (.lst ((g.es.map (·.name)).map V.str)) → Q (.ref L) H'
def spKnown (K : PySem.W.Frag) : Sp := fun vs H Q _ => ∃ (v x : V) (g : Pg) (d : PyData), vs = [v, x] ∧ PgAt K H v g ∧ g.ok ∧ Dp K H x d ∧ ∀ H', Same H H' → Q (.bl (byD g d).isSome) H'
def spEntry (K : PySem.W.Frag) : Sp := fun vs H Q _ => ∃ (v : V) (g : Pg) (x : Str) (e : Ent), vs = [v, .str x] ∧ PgAt K H v g ∧ g.ok ∧ byD g (.str x) = some e ∧ ∀ (r : V) (H' : Hp), Same H H' → EntAt K H' r e → Q r H'
def spPutT (K : PySem.W.Frag) : Sp := fun vs H Q _ => ∃ (v r : V) (g : Pg) (e : Ent), vs = [v, r] ∧ PgAt K H v g ∧ g.ok ∧ EntAt K H r e ∧ ∀ (t : Addr) (v' : V) (H' : Hp), Same H H' → PgAt K H' v' (put g e) → H' t = some (.tup [.str "told", v']) → Q (.ref t) H'
theorem eqv_is {a : Str} {d : PyData} (h : PyData.eqv (.str a) d = true) : d = .str a := by
  cases d with
  | str b => exact congrArg PyData.str (beq_iff_eq.mp (show (a == b) = true from h)).symm
  | none => cases h
  | bool b => cases h
  | int n => cases h
  | list l => cases h
  | tuple l => cases h
  | dict l => cases h
theorem byD_str {g : Pg} {d : PyData} {e : Ent} (h : byD g d = some e) : d = .str e.name := eqv_is (List.find?_some (p := fun e : Ent => PyData.eqv (.str e.name) d) h)
theorem known_str (g : Pg) (x : Str) : (byD g (.str x)).isSome = decide (x ∈ g.es.map (·.name)) := by
  cases hf : byD g (.str x) with
  | some e =>
    have m : e ∈ g.es := List.mem_of_find?_eq_some hf
    have y := byD_str hf
    have y2 : x = e.name := PyData.str.inj y
    rw [decide_eq_true (List.mem_map.mpr ⟨e, m, y2.symm⟩)]
    rfl
  | none =>
    have no := byD_none hf
    rw [decide_eq_false (fun z => ?_)]
    · rfl
    · obtain ⟨e, he, rfl⟩ := List.mem_map.mp z
      have q := no e he
      have q2 : PyData.eqv (.str e.name) (.str e.name) = true := beq_self_eq_true e.name
      rw [q2] at q
      cases q
theorem known_not {g : Pg} {d : PyData} (h : strB d = false) : (byD g d).isSome = false := by
  cases z : byD g d with
  | none => rfl
  | some e =>
    rw [byD_str z] at h
    cases h
section
variable {P : Program} {w : World} {K : PySem.W.Frag} {mg : Str → Option Value} {base : Heap}
theorem pick_first {H : Hp} {x : Str} {e : Ent} : ∀ {ws : List V} {es : List Ent}, EntsAt K H ws es → es.find? (fun e : Ent => PyData.eqv (.str e.name) (.str x)) = some e → ∃ r rest, (((ws.zip es).map fun p => (decide (p.2.name = x), p.1)).filter (·.1)).map (·.2) = r :: rest ∧ EntAt K H r e
  | _, _, .nil, h => by cases h
  | _, _, .cons (v := v) (vs := vs) (e := o) (es := es) a b, h => by
    rw [List.zip_cons_cons, List.map_cons, List.filter_cons]
    rw [List.find?_cons] at h
    by_cases z : o.name = x
    · have y : PyData.eqv (.str o.name) (.str x) = true := by
        rw [z]
        exact beq_self_eq_true x
      rw [y] at h
      cases h
      dsimp only
      rw [decide_eq_true z, if_pos rfl, List.map_cons]
      exact ⟨_, _, rfl, a⟩
    · have y : PyData.eqv (.str o.name) (.str x) = false := beq_eq_false_iff_ne.mpr z
      rw [y] at h
      dsimp only
      rw [decide_eq_false z, if_neg Bool.false_ne_true]
      exact pick_first b h
theorem ok_labOf {f : Addr} {fd : FuncData} (F : Fun K "_law_labels_of" "_law_labels_of" (topS 31) f fd) : FnOk P w K mg base CX0 1 f fd ["_law_page_here"] (spLabOf K) := by
  refine F.ok scLabOf (fun vs H Q E h => ?_) (fun cdv A outer s H vs Q E hr h => ?_)
  · obtain ⟨v, g, rfl, _⟩ := h
    rfl
  · obtain ⟨v, g, rfl, ⟨p, r, ws, rfl, hp, hr', hE⟩, ok, q⟩ := h
    have lw := hE.len
    have l12 := ok.1
    refine ⟨_, pss_one (ps_ret (pe_lc (own := [("_law_entry_here", 1)]) (g := gName 1) (by rfl) scLabOf.nd (pi_tup (pe_ix ix_tup (pv 0) pe_int (fun _ _ => rfl))) (blkOk_by (own := [("_law_entry_here", 1)]) (N := nLabOf) (sc := defScope (topS 31)) (by decide +kernel))
      (fun _ _ _ _ _ => pg_name (i := 1) scLabOf.nd rfl (Or.inl rfl)) (fun _ _ _ _ _ => pts_nil) (fun _ _ _ _ _ => pe_ix (r := rIxT K) ix_tup (pv 1) pe_int (fun _ _ => rfl)))), ?_⟩
    dsimp only [tRet]
    refine lc_mapT (a := r) (xs := ws) ((g.es.map (·.name)).map V.str) (by simp; omega) (by omega) hr' (fun R k => ⟨.ref p, rfl, p, _, 0, .ref r, rfl, rfl, hp, atI_nat (j := 0) rfl, k⟩) (fun v => rfl) ?_ ?_
    · intro i x y G R hx hy sm k
      obtain ⟨e, he, hv⟩ := hE.get hx
      obtain ⟨z, hz, rfl⟩ := map_get hy
      obtain ⟨e', he', rfl⟩ := map_get hz
      obtain rfl : e = e' := Option.some.inj (he.symm.trans he')
      obtain ⟨p1, r1, rfl, hp1, hr1⟩ := hv.same sm
      exact ⟨.ref p1, rfl, p1, _, 0, _, rfl, rfl, hp1, atI_nat (j := 0) rfl, k G (Same.refl G)⟩
    · intro D G nD sm hD
      exact q D G sm nD hD
theorem ok_known {f fL : Addr} {fd dL : FuncData} (F : Fun K "_law_is_known" "_law_is_known" (topS 32) f fd) (L : Def K mg "_law_labels_of" 31 ["_law_page_here"] fL dL) (OL : FnOk P w K mg base CX0 1 fL dL ["_law_page_here"] (spLabOf K)) (mi : mg "isinstance" = none) (ms : mg "str" = none) :
    FnOk P w K mg base CX0 2 f fd ["_law_page_here", "_law_item"] (spKnown K) := by
  refine F.ok scKnown (fun vs H Q E h => ?_) (fun cdv A outer s H vs Q E hr h => ?_)
  · obtain ⟨v, x, g, d, rfl, _⟩ := h
    rfl
  · obtain ⟨v, x, g, d, rfl, hP, ok, hd, q⟩ := h
    refine ⟨_, pss_one (ps_ret (pe_and (pe_callB call_isi (by rfl) mi boot_isinstance (pa_cons (pv 1) (pa_cons (pe_bltn (v := .ty "str") (by rfl) ms (by decide +kernel) rfl) pa_nil)))
      (pe_one (pe_cmpR op_in_seq (pv 1) (pe_call OL hr (by rfl) L.m L.F.kp L.b .nil pass0 (pa_cons (pv 0) pa_nil)) (by rfl))))), ?_⟩
    refine ⟨x, rfl, x, .ty "str", _, _, _, rfl, .ty "str", ty_of hd, kit_str, _, rfl, ?_⟩
    cases hd with
    | str y =>
      refine iteT ⟨.str y, rfl, v, rfl, v, g, rfl, hP, ok, fun l H' s' nl hl => ⟨l, _, rfl, .inl (.inl (.inl hl)), rfl, flat_strs _, ?_⟩⟩
      rw [if_neg Bool.false_ne_true, inV_strs, ← known_str]
      exact q H' s'
    | non => refine iteF ?_; rw [← known_not (g := g) (d := .none) rfl]; exact q H (Same.refl H)
    | bl b => refine iteF ?_; rw [← known_not (g := g) (d := .bool b) rfl]; exact q H (Same.refl H)
    | int n => refine iteF ?_; rw [← known_not (g := g) (d := .int n) rfl]; exact q H (Same.refl H)
    | lst a b => refine iteF ?_; rw [← known_not (g := g) (d := .list _) rfl]; exact q H (Same.refl H)
    | tup a b => refine iteF ?_; rw [← known_not (g := g) (d := .tuple _) rfl]; exact q H (Same.refl H)
theorem ok_entry {f : Addr} {fd : FuncData} (F : Fun K "_law_entry" "_law_entry" (topS 33) f fd) : FnOk P w K mg base CX0 1 f fd ["_law_page_here", "_law_sign"] (spEntry K) := by
  refine F.ok scEntry (fun vs H Q E h => ?_) (fun cdv A outer s H vs Q E hr h => ?_)
  · obtain ⟨v, g, x, e, rfl, _⟩ := h
    rfl
  · obtain ⟨v, g, x, e, rfl, ⟨p, r, ws, rfl, hp, hr', hE⟩, ok, he, q⟩ := h
    have lw := hE.len
    have l12 := ok.1
    refine ⟨_, pss_one (ps_ret (pe_ix ix_list (pe_lc (own := [("_law_entry_here", 2)]) (g := gName 2) (by rfl) scEntry.nd (pi_tup (pe_ix ix_tup (pv 0) pe_int (fun _ _ => rfl))) (blkOk_by (own := [("_law_entry_here", 2)]) (N := nEntry) (sc := defScope (topS 33)) (by decide +kernel))
      (fun _ _ _ _ _ => pg_name (i := 2) scEntry.nd rfl (Or.inl rfl)) (fun _ _ _ _ _ => pts_one (pt_cmpR (r := rEq) op_eq (pe_ix (r := rIxT K) ix_tup (pv 2) pe_int (fun _ _ => rfl)) (pv 1) (by rfl))) (fun _ _ _ _ _ => pv 2)) pe_int (fun _ _ => rfl))), ?_⟩
    obtain ⟨r0, rest, hl, hv0⟩ := pick_first (H := H) (x := x) hE he
    dsimp only [tRet, tOp]
    refine lc_pickT (a := r) (xs := ws) ((ws.zip g.es).map fun p => (decide (p.2.name = x), p.1)) (by simp; omega) (by omega) hr' (fun R k => ⟨.ref p, rfl, p, _, 0, .ref r, rfl, rfl, hp, atI_nat (j := 0) rfl, k⟩) (fun v => rfl) ?_ ?_ ?_
    · intro i y b z G R hx hy sm k
      obtain ⟨o, ho, hv⟩ := hE.get hx
      obtain ⟨⟨y', o'⟩, hz, ey⟩ := map_get hy
      obtain ⟨hx', ho'⟩ := List.getElem?_zip_eq_some.mp hz
      obtain rfl : y = y' := Option.some.inj (hx.symm.trans hx')
      obtain rfl : o = o' := Option.some.inj (ho.symm.trans ho')
      cases ey
      obtain ⟨p2, r2, rfl, hp2, hr2⟩ := hv.same sm
      refine ⟨.ref p2, rfl, p2, _, 0, _, rfl, rfl, hp2, atI_nat (j := 0) rfl, _, rfl, rfl, _, rfl, ?_⟩
      have e2 : decide (V.str o.name = V.str x) = decide (o.name = x) := by
        by_cases z : o.name = x
        · rw [decide_eq_true z, decide_eq_true (congrArg V.str z)]
        · rw [decide_eq_false z, decide_eq_false (fun y => z (V.str.inj y))]
      rw [e2]
      exact k
    · intro i y b z G R hx hy sm k
      obtain ⟨⟨y', o'⟩, hz, ey⟩ := map_get hy
      obtain ⟨hx', ho'⟩ := List.getElem?_zip_eq_some.mp hz
      obtain rfl : y = y' := Option.some.inj (hx.symm.trans hx')
      cases ey
      exact ⟨_, rfl, k⟩
    · intro D G nD sm hD
      rw [hl] at hD
      exact ⟨D, _, 0, r0, rfl, rfl, .inl (.inl hD), atI_nat (j := 0) rfl, q r0 G sm (hv0.same sm)⟩
theorem ok_putT {f : Addr} {fd : FuncData} (F : Fun K "_law_put" "_law_put" (topS 34) f fd) (mt : mg "tuple" = none) : FnOk P w K mg base CX0 1 f fd ["_law_page_here", "_law_entry_here"] (spPutT K) := by
  refine F.ok scPut (fun vs H Q E h => ?_) (fun cdv A outer s H vs Q E hr h => ?_)
  · obtain ⟨v, r, g, e, rfl, _⟩ := h
    rfl
  · obtain ⟨v, r, g, e, rfl, hP, ok, hr', q⟩ := h
    obtain ⟨pp, pq, ws, rfl, hp, hw, hE⟩ := id hP
    have lw := hE.len
    have o1 := ok.1
    refine ⟨_, pss_one (ps_ret (pe_tup (pa_cons pe_str (pa_cons (pe_tup (pa_cons (pe_callTy call_tuple_of (by rfl) mt boot_tuple (pa_cons (pe_lc (own := [("_law_own", 2)]) (g := gName 2) (by rfl) scPut.nd (pi_tup (pe_ix ix_tup (pv 0) pe_int (fun _ _ => rfl))) (blkOk_by (own := [("_law_own", 2)]) (N := nPut) (sc := defScope (topS 34)) (by decide +kernel))
        (fun _ _ _ _ _ => pg_name (i := 2) scPut.nd rfl (Or.inl rfl)) (fun _ _ _ _ _ => pts_nil) (fun _ _ _ _ _ => pe_ifExp (pt_cmpR (r := rEq) op_eq (pe_ix (r := rIxT K) ix_tup (pv 2) pe_int (fun _ _ => rfl)) (pe_ix (r := rIxT K) ix_tup (pv 1) pe_int (fun _ _ => rfl)) (by rfl)) (pv 1) (pv 2))) pa_nil)) (pa_cons (pe_ix ix_tup (pv 0) pe_int (fun _ _ => rfl)) pa_nil))) pa_nil)))), ?_⟩
    obtain ⟨p1, r1, rfl, hp1, hr1⟩ := id hr'
    dsimp only [tRet, tTup, tCB, tCons, tC]
    refine lc_mapT (a := pq) (xs := ws) ((ws.zip g.es).map fun p => if p.2.name = e.name then .ref p1 else p.1) (by simp; omega) (by omega) hw (fun R k => ⟨.ref pp, rfl, pp, _, 0, .ref pq, rfl, rfl, hp, atI_nat (j := 0) rfl, k⟩) (fun v => rfl) ?_ ?_
    · intro i x y G R hx hy sm k
      obtain ⟨o, ho, hv⟩ := hE.get hx
      obtain ⟨⟨x', o'⟩, hz, rfl⟩ := map_get hy
      obtain ⟨hx', ho'⟩ := List.getElem?_zip_eq_some.mp hz
      obtain rfl : x = x' := Option.some.inj (hx.symm.trans hx')
      obtain rfl : o = o' := Option.some.inj (ho.symm.trans ho')
      obtain ⟨p2, r2, rfl, hp2, hr2⟩ := hv.same sm
      refine ⟨.ref p2, rfl, p2, _, 0, _, rfl, rfl, hp2, atI_nat (j := 0) rfl, .ref p1, rfl, p1, _, 0, _, rfl, rfl, tupS sm hp1, atI_nat (j := 0) rfl, rfl, _, rfl, ?_⟩
      have k2 := k G (Same.refl G)
      dsimp only at k2
      by_cases z : o.name = e.name
      · rw [if_pos z] at k2
        rw [decide_eq_true (show V.str o.name = V.str e.name from congrArg V.str z)]
        exact iteT ⟨_, rfl, k2⟩
      · rw [if_neg z] at k2
        rw [decide_eq_false (show ¬ V.str o.name = V.str e.name from fun y => z (V.str.inj y))]
        exact iteF ⟨_, rfl, k2⟩
    · intro D G nD sm hD
      refine ⟨D, _, rfl, .inl ⟨.inl (.inl hD), fun t nt => ?_⟩⟩
      have s1 : Same H (upd G t (.tup ((ws.zip g.es).map fun p => if p.2.name = e.name then V.ref p1 else p.1))) := sm.trans (same_new nt)
      refine ⟨.ref pp, rfl, pp, _, 1, .str g.asks, rfl, rfl, tupS s1 hp, atI_nat (j := 1) rfl, (show 2 ≤ sizeLine by decide), fun u nu => ⟨(show 2 ≤ sizeLine by decide), fun z nz => ?_⟩⟩
      have su := same_new (o := .tup [.ref t, .str g.asks]) nu
      have sz := same_new (o := .tup [.str "told", .ref u]) nz
      have s2 := (s1.trans su).trans sz
      exact q z (.ref u) _ s2 ⟨u, t, _, rfl, tupS sz (.inl (.inl upd_same)), tupS (su.trans sz) (.inl (.inl upd_same)), (EntsAt.put hr' hE).same s2⟩ upd_same
end
end Kn


namespace Kn
open PySem PySem.Spec PyProof.Rows L2
abbrev nDue : List Str := ["_law_page_here", "_law_sign", "_law_mate", "_law_is_more", "_law_label", "_law_cost", "_law_holds", "_law_row", "_law_left", "_law_one"]
theorem scDue : FnScope nDue ["_law_page_here", "_law_sign", "_law_mate", "_law_is_more"] (defScope (topS 35)) := ⟨rfl, rfl, rfl, by decide +kernel, rfl, by decide +kernel, by decide +kernel⟩
def dUse (w : Str) : PyData := .tuple [.str "no", .str "use", .str w, .int (-1)]
def dOut : Out → PyData
  | .yes g => .tuple [.str "told", dPg g]
  | .no w => dUse w
abbrev useRow (w : Str) : HO := .tup [.str "no", .str "use", .str w, .int (-1)]
theorem dp_use {K : PySem.W.Frag} {H : Hp} {p : Addr} {w : Str} (h : H p = some (useRow w)) : Dp K H (.ref p) (dUse w) := .tup (.inl (.inl h)) (.cons (.str _) (.cons (.str _) (.cons (.str _) (.cons (.int _) .nil))))
theorem dp_told {K : PySem.W.Frag} {H : Hp} {p : Addr} {v : V} {g : Pg} (h : H p = some (.tup [.str "told", v])) (hv : PgAt K H v g) : Dp K H (.ref p) (dOut (.yes g)) := .tup (.inl (.inl h)) (.cons (.str _) (.cons hv.dp .nil))
def OutAt (K : PySem.W.Frag) (H : Hp) (r : V) : Out → Prop
  | .yes g => ∃ (t : Addr) (v : V), r = .ref t ∧ H t = some (.tup [.str "told", v]) ∧ PgAt K H v g
  | .no w => ∃ t : Addr, r = .ref t ∧ H t = some (useRow w)
theorem OutAt.ts {K : PySem.W.Frag} {H H' : Hp} {r : V} {o : Out} (s : TS H H') (h : OutAt K H r o) : OutAt K H' r o := by
  cases o with
  | yes g =>
    obtain ⟨t, v, a, b, c⟩ := h
    exact ⟨t, v, a, s.1 _ _ b, c.ts s⟩
  | no w =>
    obtain ⟨t, a, b⟩ := h
    exact ⟨t, a, s.1 _ _ b⟩
theorem OutAt.dp {K : PySem.W.Frag} {H : Hp} {r : V} {o : Out} (h : OutAt K H r o) : Dp K H r (dOut o) := by
  cases o with
  | yes g =>
    obtain ⟨t, v, rfl, b, c⟩ := h
    exact dp_told b c
  | no w =>
    obtain ⟨t, rfl, b⟩ := h
    exact dp_use b
def Pg.sub (g : Pg) : Prop := ∀ e ∈ g.es, ∀ s ∈ e.row, s ∈ g.es.map (·.name)
def outArrow (b : Bool) (g : Pg) (dk dm : PyData) : Out := match b with
  | true => outMore g dk dm
  | false => outLess g dk dm
def spDue (K : PySem.W.Frag) : Sp := fun vs H Q _ => ∃ (v k x : V) (b : Bool) (g : Pg) (dk dx : PyData), vs = [v, k, x, .bl b] ∧ PgAt K H v g ∧ g.neat ∧ g.sub ∧ Dp K H k dk ∧ Dp K H x dx ∧ ∀ (r : V) (H' : Hp), Same H H' → OutAt K H' r (outArrow b g dk dx) → Q r H'
theorem dpS {K : PySem.W.Frag} {H H' : Hp} {v : V} {d : PyData} (s : Same H H') (h : Dp K H v d) : Dp K H' v d := dpE (ext_same s) h
theorem outArrow_kind {b : Bool} {g : Pg} {dk dm : PyData} (h : byD g dk = none) : outArrow b g dk dm = .no "kind" := by
  cases b
  · show outLess g dk dm = _
    unfold outLess
    rw [h]
  · show outMore g dk dm = _
    unfold outMore
    rw [h]
theorem outArrow_unknown {b : Bool} {g : Pg} {dk dm : PyData} {e : Ent} (sub : g.sub) (h : byD g dk = some e) (n : byD g dm = none) : outArrow b g dk dm = .no "other" := by
  have no : ∀ m, dm = .str m → m ∉ g.es.map (·.name) := fun m z hm => by
    subst z
    have q := known_str g m
    rw [n, decide_eq_true hm] at q
    cases q
  cases b
  · show outLess g dk dm = _
    unfold outLess
    rw [h]
    cases dm with
    | str m =>
      dsimp only
      rw [if_neg (fun z => no m rfl (sub e (List.mem_of_find?_eq_some h) m z))]
    | _ => rfl
  · show outMore g dk dm = _
    unfold outMore
    rw [h]
    cases dm with
    | str m =>
      dsimp only
      rw [if_neg (fun z => no m rfl z.1)]
    | _ => rfl
theorem outArrow_same {b : Bool} {g : Pg} {dk : PyData} {e : Ent} {m : Str} (h : byD g dk = some e) (n : decide (m ∈ e.row) = b) : outArrow b g dk (.str m) = .no "other" := by
  cases b
  · show outLess g dk (.str m) = _
    unfold outLess
    rw [h]
    dsimp only
    rw [if_neg (of_decide_eq_false n)]
  · show outMore g dk (.str m) = _
    unfold outMore
    rw [h]
    dsimp only
    rw [if_neg (fun z => z.2 (of_decide_eq_true n))]
section
variable {P : Program} {w : World} {K : PySem.W.Frag} {mg : Str → Option Value} {base : Heap}
theorem use_read {H H0 : Hp} {x : Str} {Q : VK} (s0 : Same H0 H) (q : ∀ (r : V) (H' : Hp), Same H0 H' → OutAt K H' r (.no x) → Q r H') : spUse [.str x] H Q E0 :=
  ⟨.str x, rfl, fun p np => q (.ref p) _ (s0.trans (same_new np)) ⟨p, rfl, upd_same⟩⟩
theorem ok_due {f fK fU fE fP : Addr} {fd dK dU dE dP : FuncData} (F : Fun K "_law_arrow_due" "_law_arrow_due" (topS 35) f fd)
    (A : Def K mg "_law_is_known" 32 ["_law_page_here", "_law_item"] fK dK) (OA : FnOk P w K mg base CX0 2 fK dK ["_law_page_here", "_law_item"] (spKnown K))
    (U : Def K mg "_law_use" 29 ["_law_word"] fU dU) (OU : FnOk P w K mg base CX0 1 fU dU ["_law_word"] spUse)
    (B : Def K mg "_law_entry" 33 ["_law_page_here", "_law_sign"] fE dE) (OB : FnOk P w K mg base CX0 1 fE dE ["_law_page_here", "_law_sign"] (spEntry K))
    (C : Def K mg "_law_put" 34 ["_law_page_here", "_law_entry_here"] fP dP) (OC : FnOk P w K mg base CX0 1 fP dP ["_law_page_here", "_law_entry_here"] (spPutT K)) (mt : mg "tuple" = none) (mo : mg "sorted" = none) :
    FnOk P w K mg base CX0 3 f fd ["_law_page_here", "_law_sign", "_law_mate", "_law_is_more"] (spDue K) := by
  refine F.ok scDue (fun vs H Q E h => ?_) (fun cdv A' outer s H vs Q E hr h => ?_)
  · obtain ⟨v, k, x, b, g, dk, dx, rfl, _⟩ := h
    rfl
  · obtain ⟨v, k, x, b, g, dk, dx, rfl, hP, nt, sub, hk, hx, q⟩ := h
    have hr1 : Room 1 _ := hr.mono (by decide)
    refine ⟨_, pss_cons (ps_if (pt_not (pt_val (pe_call OA hr (by rfl) A.m A.F.kp A.b .nil pass0 (pa_cons (pv 0) (pa_cons (pv 1) pa_nil))))) (pss_one (ps_ret (pe_call OU hr1 (by rfl) U.m U.F.kp U.b .nil pass0 (pa_cons pe_str pa_nil)))) pss_nil)
      (pss_cons (ps_if (PW.pt (pw_or (pt_not (pt_val (pe_call OA hr (by rfl) A.m A.F.kp A.b .nil pass0 (pa_cons (pv 0) (pa_cons (pv 2) pa_nil)))))
          (pw_or1 (pt_cmpR op_eq (pe_cmpR op_in_seq (pv 2) (pe_ix ix_tup (pe_call OB hr1 (by rfl) B.m B.F.kp B.b .nil pass0 (pa_cons (pv 0) (pa_cons (pv 1) pa_nil))) pe_int (fun _ _ => rfl)) (by rfl)) (pv 3) (nomark _)))))
        (pss_one (ps_ret (pe_call OU hr1 (by rfl) U.m U.F.kp U.b .nil pass0 (pa_cons pe_str pa_nil)))) pss_nil)
      (pss_cons (ps_asg (pe_call OB hr1 (by rfl) B.m B.F.kp B.b .nil pass0 (pa_cons (pv 0) (pa_cons (pv 1) pa_nil)))
        (pg_tup (by rfl) (pgs_cons (pg_name (i := 4) scDue.nd rfl (.inl rfl)) (pgs_cons (pg_name (i := 5) scDue.nd rfl (.inl rfl)) (pgs_cons (pg_name (i := 6) scDue.nd rfl (.inl rfl)) (pgs_cons (pg_name (i := 7) scDue.nd rfl (.inl rfl)) pgs_nil))))))
      (pss_cons (ps_setLc (i := 8) (own := [("_law_one", 9)]) (g := gName 9) (by rfl) scDue.nd rfl rfl (sw_true rfl rfl rfl (by decide +kernel)) (pi_tup (pv 7)) (blkOk_by (own := [("_law_one", 9)]) (N := nDue) (sc := defScope (topS 35)) (by decide +kernel))
          (fun _ _ _ _ _ => pg_name (i := 9) scDue.nd rfl (Or.inl rfl)) (fun _ _ _ _ _ => pts_one (pt_cmpR op_ne (pv 9) (pv 2) (nomark _))) (fun _ _ _ _ _ => pv 9))
      (pss_one (ps_ret (pe_call OC hr1 (by rfl) C.m C.F.kp C.b .nil pass0 (pa_cons (pv 0) (pa_cons (pe_tup (pa_cons (pv 4) (pa_cons (pv 5) (pa_cons (pv 6) (pa_cons (pe_ifExp (pt_val (pv 3))
          (pe_callTy call_tuple_of (by rfl) mt boot_tuple (pa_cons (pe_callB cr_sortedS (by rfl) mo (by decide +kernel) (pa_cons (pe_op op_cat (pv 8) (pe_lst (pa_cons (pv 2) pa_nil))) pa_nil)) pa_nil))
          (pe_callTy call_tuple_of (by rfl) mt boot_tuple (pa_cons (pv 8) pa_nil))) pa_nil))))) pa_nil)))))))), ?_⟩
    refine ⟨v, rfl, k, rfl, v, k, g, dk, rfl, hP, nt.ok, hk, fun H1 s1 => ⟨_, rfl, ?_⟩⟩
    cases hb : byD g dk with
    | none =>
      rw [outArrow_kind hb] at q
      exact iteT (use_read s1 q)
    | some e =>
      have he : e ∈ g.es := List.mem_of_find?_eq_some hb
      obtain ⟨hr0, ha0, hl0⟩ := nt.row e he
      obtain rfl := byD_str hb
      refine iteF ⟨v, rfl, x, rfl, v, x, g, dx, rfl, hP.same s1, nt.ok, dpS s1 hx, fun H2 s2 => ⟨_, rfl, ?_⟩⟩
      have s12 := s1.trans s2
      cases hm : byD g dx with
      | none =>
        rw [outArrow_unknown sub hb hm] at q
        exact iteT (use_read s12 q)
      | some o =>
        obtain rfl := byD_str hm
        have ho : o ∈ g.es := List.mem_of_find?_eq_some hm
        cases hk
        cases hx
        refine iteF ⟨_, rfl, v, rfl, _, rfl, v, g, e.name, e, rfl, hP.same s12, nt.ok, hb, fun r H3 s3 hr3 => ?_⟩
        obtain ⟨p1, r1, rfl, hp1, hr1'⟩ := id hr3
        have s13 := s12.trans s3
        refine ⟨p1, _, 3, .ref r1, rfl, rfl, hp1, atI_nat (j := 3) rfl, r1, _, rfl, .inr hr1', rfl, flat_strs _, ?_⟩
        rw [if_neg Bool.false_ne_true, inV_strs]
        refine ⟨_, rfl, rfl, _, rfl, ?_⟩
        by_cases same : decide (o.name ∈ e.row) = b
        · rw [outArrow_same hb same] at q
          rw [decide_eq_true (show V.bl (decide (o.name ∈ e.row)) = V.bl b from congrArg V.bl same)]
          exact iteT (use_read s13 q)
        · rw [decide_eq_false (show ¬ V.bl (decide (o.name ∈ e.row)) = V.bl b from fun y => same (V.bl.inj y))]
          refine iteF ⟨v, rfl, _, rfl, v, g, e.name, e, rfl, hP.same s13, nt.ok, hb, fun r H4 s4 hr4 => ?_⟩
          obtain ⟨p2, r2, rfl, hp2, hr2'⟩ := id hr4
          refine ⟨p2, _, rfl, hp2, rfl, _, _, rfl, _, _, rfl, _, _, rfl, _, _, rfl, rfl, ?_⟩
          dsimp only
          refine seq_asg ?_
          refine lc_pickT (K := K) (a := r2) (xs := e.row.map V.str) (e.row.map fun s => (!decide (s = o.name), V.str s)) (by simp) (by simp; omega) hr2' (fun R k => ⟨_, rfl, k⟩) (fun v => rfl) ?_ ?_ ?_
          · intro i x b y G R hx hy sm k
            obtain ⟨a, ha, rfl⟩ := map_get hx
            obtain ⟨a', ha', ey⟩ := map_get hy
            obtain rfl : a = a' := Option.some.inj (ha.symm.trans ha')
            cases ey
            refine ⟨_, rfl, _, rfl, rfl, _, rfl, ?_⟩
            have e2 : decide (V.str a = V.str o.name) = decide (a = o.name) := by
              by_cases z : a = o.name
              · rw [decide_eq_true z, decide_eq_true (congrArg V.str z)]
              · rw [decide_eq_false z, decide_eq_false (fun y => z (V.str.inj y))]
            rw [e2]
            exact k
          · intro i x b y G R hx hy sm k
            obtain ⟨a, ha, rfl⟩ := map_get hx
            obtain ⟨a', ha', ey⟩ := map_get hy
            obtain rfl : a = a' := Option.some.inj (ha.symm.trans ha')
            cases ey
            exact ⟨_, rfl, k⟩
          · intro D G nD sm hD
            rw [filter_pick] at hD
            have s5 := (s13.trans s4).trans sm
            have last : ∀ (p : Addr) (row : List Str) (J : Hp), Same G J → SqT K J p (row.map V.str) → outArrow b g (.str e.name) (.str o.name) = .yes (put g ⟨e.name, e.fee, e.has, row⟩) →
                ∀ t, J t = none → spPutT K [v, .ref t] (upd J t (.tup [.str e.name, .int e.fee, .bl e.has, .ref p])) Q E0 := fun p row J sj hp z t nt' => by
              rw [z] at q
              have st := same_new (o := .tup [.str e.name, .int e.fee, .bl e.has, .ref p]) nt'
              have sa := (s5.trans sj).trans st
              exact ⟨v, .ref t, g, ⟨e.name, e.fee, e.has, row⟩, rfl, hP.same sa, nt.ok, ⟨t, p, rfl, .inl (.inl upd_same), tupS st hp⟩, fun t' v' H' s' hv' ht' => q _ H' (sa.trans s') ⟨t', v', rfl, ht', hv'⟩⟩
            refine ⟨v, rfl, _, rfl, _, rfl, _, rfl, _, rfl, b, rfl, ?_⟩
            cases b with
            | true =>
              have no : o.name ∉ e.row := fun z => same (decide_eq_true z)
              have fl : (e.row.filter fun s => !decide (s = o.name)) = e.row := List.filter_eq_self.mpr fun s hs => by
                rw [decide_eq_false (show ¬ s = o.name from fun z => no (z ▸ hs))]
                rfl
              rw [fl] at hD
              refine iteT ⟨.ref D, rfl, _, rfl, (show 1 ≤ sizeLine by decide), fun l1 n1 => ?_⟩
              have t1 := same_new (o := .lst [.str o.name]) n1
              refine ⟨D, l1, e.row.map V.str, [.str o.name], rfl, rfl, t1 _ _ hD, upd_same, ?_, fun l2 n2 => ?_⟩
              · rw [List.length_map]
                exact Nat.le_trans (Nat.add_le_add_right hl0 1) (by decide)
              have t2 := t1.trans (same_new (o := .lst (e.row.map V.str ++ [.str o.name])) n2)
              refine ⟨l2, e.row ++ [o.name], rfl, .inl (.inl (by rw [List.map_append]; exact upd_same)), ?_, fun ys p3 pm so n3 => ?_⟩
              · rw [List.length_append]
                exact Nat.lt_of_le_of_lt (Nat.add_le_add_right hl0 1) (by decide)
              have t3 := t2.trans (same_new (o := .lst (ys.map V.str)) n3)
              obtain rfl := ins_only (nt.nm o ho) hr0 ha0 no (pm.trans (List.perm_append_singleton _ _)) so
              refine ⟨p3, _, rfl, .inl ⟨.inl (.inl upd_same), fun p4 n4 => ⟨(show 4 ≤ sizeLine by decide), fun t nt' => ?_⟩⟩⟩
              refine last p4 (ins o.name e.row) _ (t3.trans (same_new n4)) (.inl (.inl upd_same)) ?_ t nt'
              show outMore g (.str e.name) (.str o.name) = _
              unfold outMore
              rw [hb]
              dsimp only
              rw [if_pos ⟨List.mem_map.mpr ⟨o, ho, rfl⟩, no⟩]
              rfl
            | false =>
              have yes : o.name ∈ e.row := by
                by_cases z : o.name ∈ e.row
                · exact z
                · exact absurd (decide_eq_false z) same
              refine iteF ⟨.ref D, rfl, D, _, rfl, .inl ⟨.inl (.inl hD), fun p4 n4 => ⟨(show 4 ≤ sizeLine by decide), fun t nt' => ?_⟩⟩⟩
              refine last p4 (e.row.filter fun s => !decide (s = o.name)) _ (same_new n4) (.inl (.inl upd_same)) ?_ t nt'
              show outLess g (.str e.name) (.str o.name) = _
              unfold outLess
              rw [hb]
              dsimp only
              rw [if_pos yes]
              rfl
end
end Kn


namespace Kn
open PySem PySem.Spec PyProof.Rows L2 LamX
abbrev nRt : List Str := ["_law_page_here", "_law_sign", "_law_mate", "_law_told", "_law_due"]
theorem scRt : FnScope nRt ["_law_page_here", "_law_sign", "_law_mate"] (defScope (topS 36)) := ⟨rfl, rfl, rfl, by decide +kernel, rfl, by decide +kernel, by decide +kernel⟩
abbrev qRt : Str := ("_law_is_right" : Str) ++ ".<locals>." ++ "<lambda>"
abbrev TT1 (T0 : Addr) : List (Addr × Str) := [(T0, qRt)]
theorem put_ok {g : Pg} {e : Ent} (h : g.ok) (k : e.ok) : (put g e).ok := by
  refine ⟨?_, fun o ho => ?_, h.2.2⟩
  · show (g.es.map _).length ≤ 12
    rw [List.length_map]
    exact h.1
  · obtain ⟨p, hp, rfl⟩ := List.mem_map.mp ho
    split
    · exact k
    · exact h.2.1 p hp
def Out.ok : Out → Prop
  | .yes g => g.ok
  | .no w => Fit 8 w
theorem sh_out {o : Out} (h : o.ok) : Sh 6 300000 (dOut o) := by
  cases o with
  | yes g =>
    refine (sh_tup (k := 4) (B := 100000) (n := 2) ?_ (by simp)).mono (by decide) (by decide)
    intro d hd
    simp only [List.mem_cons, List.not_mem_nil, or_false] at hd
    rcases hd with rfl | rfl
    · exact (sh_str (fit_of "told" (n := 10) (by decide))).mono (by decide) (by decide)
    · exact sh_pg h
  | no w =>
    refine (sh_tup (k := 0) (B := 102) (n := 4) ?_ (by simp)).mono (by decide) (by decide)
    intro d hd
    simp only [List.mem_cons, List.not_mem_nil, or_false] at hd
    rcases hd with rfl | rfl | rfl | rfl
    · exact sh_str (fit_of "no" (n := 10) (by decide))
    · exact sh_str (fit_of "use" (n := 10) (by decide))
    · exact (sh_str h).mono (by decide) (by decide)
    · exact (sh_int (i := -1) (by decide)).mono (by decide) (by decide)
/-- a drawn page -/
structure Pg.full (g : Pg) : Prop where
  neat : g.neat
  sub : g.sub
  asc : Asc (g.es.map (·.name))
  short : ∀ e ∈ g.es, e.row.length ≤ 5
theorem same_of {g : Pg} (h : g.full) {e e' : Ent} (he : e ∈ g.es) (he' : e' ∈ g.es) (n : e.name = e'.name) : e = e' := by
  obtain ⟨i, hi, rfl⟩ := List.getElem_of_mem he
  obtain ⟨j, hj, rfl⟩ := List.getElem_of_mem he'
  have h1 := List.pairwise_iff_getElem.mp h.asc
  rcases Nat.lt_trichotomy i j with l | rfl | l
  · have q := h1 i j (by simpa using hi) (by simpa using hj) l
    rw [List.getElem_map, List.getElem_map] at q
    exact absurd n.symm (lt_ne (h.neat.nm _ he) q)
  · rfl
  · have q := h1 j i (by simpa using hj) (by simpa using hi) l
    rw [List.getElem_map, List.getElem_map] at q
    exact absurd n (lt_ne (h.neat.nm _ he') q)
theorem byD_put {g : Pg} {e e' : Ent} (h : byD g (.str e.name) = some e) (n : e'.name = e.name) : byD (put g e') (.str e.name) = some e' := by
  unfold byD at h ⊢
  show (g.es.map fun o => if o.name = e'.name then e' else o).find? _ = _
  rw [List.find?_map]
  have same : ((fun e_1 : Ent => PyData.eqv (.str e_1.name) (.str e.name)) ∘ fun o : Ent => if o.name = e'.name then e' else o) = fun e_1 : Ent => PyData.eqv (.str e_1.name) (.str e.name) := by
    funext o
    show PyData.eqv (.str (if o.name = e'.name then e' else o).name) (.str e.name) = _
    by_cases z : o.name = e'.name
    · rw [if_pos z, z]
    · rw [if_neg z]
  rw [same, h]
  show some (if e.name = e'.name then e' else e) = some e'
  rw [if_pos n.symm]
theorem put_back {g : Pg} (h : g.full) {e e' : Ent} (he : e ∈ g.es) (n : e'.name = e.name) : put (put g e') e = g := by
  have z : ((g.es.map fun o => if o.name = e'.name then e' else o).map fun o => if o.name = e.name then e else o) = g.es := by
    rw [List.map_map, List.map_congr_left (g := id) (fun o ho => ?_), List.map_id]
    show (if (if o.name = e'.name then e' else o).name = e.name then e else (if o.name = e'.name then e' else o)) = o
    by_cases q : o.name = e'.name
    · rw [if_pos q, if_pos n]
      exact (same_of h ho he (q.trans n)).symm
    · rw [if_neg q, if_neg (fun y => q (y.trans n.symm))]
  show Pg.mk ((g.es.map fun o => if o.name = e'.name then e' else o).map fun o => if o.name = e.name then e else o) g.asks = g
  rw [z]
theorem put_names {g : Pg} {e : Ent} : (put g e).es.map (·.name) = g.es.map (·.name) := by
  show (g.es.map fun o => if o.name = e.name then e else o).map (·.name) = _
  rw [List.map_map]
  refine List.map_congr_left fun o _ => ?_
  show (if o.name = e.name then e else o).name = o.name
  by_cases q : o.name = e.name
  · rw [if_pos q, q]
  · rw [if_neg q]
theorem put_neat {g : Pg} (h : g.full) {e : Ent} (hn : e.name ∈ names) (hf : e.fee.natAbs < 10 ^ 60) (hr : ∀ s ∈ e.row, s ∈ names) (ha : Asc e.row) (hl : e.row.length ≤ 7) : (put g e).neat := by
  refine ⟨put_ok h.neat.ok ⟨names_fit _ hn, hf, Nat.le_trans hl (by decide), fun s hs => names_fit s (hr s hs)⟩, fun o ho => ?_, fun o ho => ?_⟩
  all_goals
    obtain ⟨p, hp, rfl⟩ := List.mem_map.mp ho
    split
  · exact hn
  · exact h.neat.nm p hp
  · exact ⟨hr, ha, hl⟩
  · exact h.neat.row p hp
theorem ins_filter {m : Str} : ∀ {r : List Str}, m ∉ r → (ins m r).filter (fun s => !decide (s = m)) = r
  | [], _ => by
    show List.filter _ [m] = []
    simp
  | x :: r, no => by
    have ne : ¬ x = m := fun z => no (z ▸ List.mem_cons_self ..)
    have nr : m ∉ r := fun z => no (List.mem_cons_of_mem _ z)
    have keep : (x :: r).filter (fun s => !decide (s = m)) = x :: r := List.filter_eq_self.mpr fun s hs => by
      rw [decide_eq_false (show ¬ s = m from fun z => no (z ▸ hs))]
      rfl
    unfold ins
    split
    · rw [List.filter_cons, keep]
      simp
    · rw [List.filter_cons, ins_filter nr]
      simp [ne]
theorem filter_ins {m : Str} {r : List Str} (hm : m ∈ r) (hn : ∀ s ∈ r, s ∈ names) (ha : Asc r) : ins m (r.filter fun s => !decide (s = m)) = r := by
  have no : m ∉ r.filter fun s => !decide (s = m) := fun z => by
    have q := (List.mem_filter.mp z).2
    simp at q
  have hn2 : ∀ s ∈ r.filter (fun s => !decide (s = m)), s ∈ names := fun s hs => hn s (List.mem_filter.mp hs).1
  have ha2 : Asc (r.filter fun s => !decide (s = m)) := List.Pairwise.filter _ ha
  refine asc_one _ _ (ins_asc (hn m hm) _ hn2 ha2 no) ha (fun s hs => ?_) ((List.perm_ext_iff_of_nodup ?_ (asc_nodup hn ha)).mpr fun x => ?_)
  · rcases ins_mem.mp hs with rfl | h
    · exact hn _ hm
    · exact hn2 s h
  · exact (ins_perm m _).nodup_iff.mpr (List.nodup_cons.mpr ⟨no, asc_nodup hn2 ha2⟩)
  · rw [ins_mem, List.mem_filter]
    by_cases z : x = m
    · subst z
      simp [hm]
    · simp [z]
theorem back_more {g g' : Pg} {dk dx : PyData} (h : g.full) (z : outMore g dk dx = .yes g') : g'.neat ∧ outLess g' dk dx = .yes g := by
  unfold outMore at z
  cases hb : byD g dk with
  | none =>
    rw [hb] at z
    cases z
  | some e =>
    rw [hb] at z
    have he : e ∈ g.es := List.mem_of_find?_eq_some hb
    obtain rfl := byD_str hb
    obtain ⟨hr0, ha0, hl0⟩ := h.neat.row e he
    cases dx with
    | str m =>
      dsimp only at z
      by_cases c : m ∈ g.es.map (·.name) ∧ m ∉ e.row
      · rw [if_pos c] at z
        cases z
        have hm : m ∈ names := by
          obtain ⟨o, ho, rfl⟩ := List.mem_map.mp c.1
          exact h.neat.nm o ho
        obtain ⟨k1, k2, k3, k4⟩ := h.neat.ok.2.1 e he
        refine ⟨put_neat h (e := moreE e m) (h.neat.nm e he) k2 (fun s hs => ?_) (ins_asc hm _ hr0 ha0 c.2) ?_, ?_⟩
        · rcases ins_mem.mp hs with rfl | hs
          · exact hm
          · exact hr0 s hs
        · show (ins m e.row).length ≤ 7
          rw [ins_len]
          have := h.short e he
          omega
        · unfold outLess
          rw [byD_put hb (e' := moreE e m) rfl]
          dsimp only
          rw [if_pos (show m ∈ (moreE e m).row from ins_mem.mpr (.inl rfl))]
          have eq : lessE (moreE e m) m = e := by
            show Ent.mk e.name e.fee e.has ((ins m e.row).filter fun s => !decide (s = m)) = e
            rw [ins_filter c.2]
          rw [eq, put_back (e' := moreE e m) h he rfl]
      · rw [if_neg c] at z
        cases z
    | _ => cases z
theorem back_less {g g' : Pg} {dk dx : PyData} (h : g.full) (z : outLess g dk dx = .yes g') : g'.neat ∧ outMore g' dk dx = .yes g := by
  unfold outLess at z
  cases hb : byD g dk with
  | none =>
    rw [hb] at z
    cases z
  | some e =>
    rw [hb] at z
    have he : e ∈ g.es := List.mem_of_find?_eq_some hb
    obtain rfl := byD_str hb
    obtain ⟨hr0, ha0, hl0⟩ := h.neat.row e he
    cases dx with
    | str m =>
      dsimp only at z
      by_cases c : m ∈ e.row
      · rw [if_pos c] at z
        cases z
        obtain ⟨k1, k2, k3, k4⟩ := h.neat.ok.2.1 e he
        refine ⟨put_neat h (e := lessE e m) (h.neat.nm e he) k2 (fun s hs => hr0 s (List.mem_filter.mp hs).1) (List.Pairwise.filter _ ha0) ?_, ?_⟩
        · exact Nat.le_trans (List.length_filter_le _ _) hl0
        · unfold outMore
          rw [byD_put hb (e' := lessE e m) rfl]
          dsimp only
          rw [if_pos ⟨by rw [put_names]; exact h.sub e he m c, fun q => by have q := (List.mem_filter.mp q).2; simp at q⟩]
          have eq : moreE (lessE e m) m = e := by
            show Ent.mk e.name e.fee e.has (ins m (e.row.filter fun s => !decide (s = m))) = e
            rw [filter_ins c hr0 ha0]
          rw [eq, put_back (e' := lessE e m) h he rfl]
      · rw [if_neg c] at z
        cases z
    | _ => cases z
theorem outMore_ok {g : Pg} {dk dx : PyData} (h : g.full) : (outMore g dk dx).ok := by
  cases z : outMore g dk dx with
  | yes g' => exact (back_more h z).1.ok
  | no w =>
    unfold outMore at z
    cases hb : byD g dk with
    | none =>
      rw [hb] at z
      cases z
      exact fit_of "kind" (by decide)
    | some e =>
      rw [hb] at z
      cases dx with
      | str m =>
        dsimp only at z
        split at z
        · cases z
        · cases z
          exact fit_of "other" (by decide)
      | _ =>
        cases z
        exact fit_of "other" (by decide)
theorem outLess_ok {g : Pg} {dk dx : PyData} (h : g.full) : (outLess g dk dx).ok := by
  cases z : outLess g dk dx with
  | yes g' => exact (back_less h z).1.ok
  | no w =>
    unfold outLess at z
    cases hb : byD g dk with
    | none =>
      rw [hb] at z
      cases z
      exact fit_of "kind" (by decide)
    | some e =>
      rw [hb] at z
      cases dx with
      | str m =>
        dsimp only at z
        split at z
        · cases z
        · cases z
          exact fit_of "other" (by decide)
      | _ =>
        cases z
        exact fit_of "other" (by decide)
theorem sh_outs {a b : Out} (ha : a.ok) (hb : b.ok) : Sh 20 16777216 (.list [dOut a, dOut b]) := by
  refine (sh_list (k := 6) (B := 300000) (n := 2) ?_ (by simp)).mono (by decide) (by decide)
  intro d hd
  simp only [List.mem_cons, List.not_mem_nil, or_false] at hd
  rcases hd with rfl | rfl
  · exact sh_out ha
  · exact sh_out hb
theorem ext_own {H H2 : Hp} {L : Addr} {o' : HO} (x : ExtN H H2) (nl : ∀ b o, H b = some o → (∀ ps, o ≠ .tbl ps) → b ≠ L) : ExtN H (upd H2 L o') := fun b o h n => by
  rw [upd_ne (nl b o h n)]
  exact x b o h n
def spRt (K : PySem.W.Frag) (T : List (Addr × Str)) : Sp := fun vs H Q _ => ∃ (v k x : V) (g : Pg) (dk dx : PyData), vs = [v, k, x] ∧ PgAt K H v g ∧ g.full ∧ Dp K H k dk ∧ SeqAt.shaped dk = true ∧ Dp K H x dx ∧ SeqAt.shaped dx = true ∧ Tabs T H ∧
  ∀ H', ExtN H H' → Tabs T H' → Q (.bl true) H'
section
variable {P : Program} {w : World} {K : PySem.W.Frag} {mg : Str → Option Value} {base : Heap}
theorem res_yes {D : Addr} {H : Hp} {Q : VK} {E : XK} {o : Out} {g' : Pg} (h : o = .yes g') (k : ∀ (v : V) (H' : Hp), Same H H' → PgAt K H' v g' → Q v H') : Res K D H Q E o := by
  subst h
  exact k
theorem res_said {T : List (Addr × Str)} {D : Addr} {H H1 : Hp} {Q : VK} {o : Out} (e1 : ExtN H H1) (t1 : Tabs T H1) (next : ∀ (r : V) (H2 : Hp), ExtN H H2 → Tabs T H2 → OutAt K H2 r o → Q r H2) :
    Res K D H1 (fun v H' => 2 ≤ sizeLine ∧ ∀ p, H' p = none → Q (.ref p) (upd H' p (.tup [.str "told", v]))) (Refused K D Q) o := by
  cases o with
  | yes g' =>
    refine fun v H' s hv => ⟨by decide, fun p np => ?_⟩
    have s2 := s.trans (same_new (o := .tup [.str "told", v]) np)
    exact next _ _ (e1.trans (ext_same s2)) (t1.ext s2) ⟨p, v, rfl, upd_same, hv.same (same_new np)⟩
  | no x =>
    refine fun H0 s0 dd nd => ⟨rfl, dd, .str x, .int (-1), rfl, upd_same, fun p H2 s2 np ep => ?_⟩
    have s3 := (s0.trans (same_new (o := .xd [("at", .int (-1)), ("word", .str x)]) nd)).trans s2
    exact next _ _ (e1.trans (ext_same s3)) (t1.ext s3) ⟨p, rfl, ep⟩
theorem told3 {T : List (Addr × Str)} {D : Addr} {out : Pg → PyData → PyData → Out} {v k x : V} {g : Pg} {dk dx : PyData} {H : Hp} {σ : L2.St} {Q : VK} (h0 : σ[0]? = some (some v)) (h1 : σ[1]? = some (some k)) (h2 : σ[2]? = some (some x)) (pg : PgAt K H v g) (nt : g.neat)
    (hk : Dp K H k dk) (hs : SeqAt.shaped dk = true) (hx : Dp K H x dx) (hsx : SeqAt.shaped dx = true) (tb : Tabs T H) (next : ∀ (r : V) (H2 : Hp), ExtN H H2 → Tabs T H2 → OutAt K H2 r (out g dk dx) → Q r H2) :
    tLam T (TTsaid K D) (fun E => tCall (sp3 K D out) [] E (tCons (tVar 0) (tCons (tVar 1) (tCons (tVar 2) tNil)))) σ H Q :=
  ⟨tb, fun H1 e1 t1 => ⟨v, h0, k, h1, x, h2, v, k, x, g, dk, dx, rfl, pg.ts (ext_ts e1), nt, dpE e1 hk, hs, dpE e1 hx, hsx, res_said e1 t1 next⟩⟩
theorem ok_rt {g c T0 D CL gI gR gS gA gB gX : Addr} {fd fI fR fS fA fB fX : FuncData} (F : FunC K "_law_is_right" (topS 36) g fd c) (TB : TabB base mg c T0)
    (EM : ErrM K mg D gI fI) (mL : mg "LetterError" = some (.ref CL)) (ex : PySem.W.exmOne K (.ref D) (.ref CL) = some true)
    (R : Def K mg "_law_refusal" 27 ["_law_error"] gR fR) (GR : Handed P w K mg base 1 gR fR ["_law_error"] (spRef K D))
    (S : Def K mg "_law_said" 28 ["_law_ask"] gS fS)
    (A1 : Def K mg "with_arrow" 18 ["web", "kind", "other"] gA fA) (O1 : FnOk P w K mg base (L2.CX P w) 4 gA fA ["web", "kind", "other"] (sp3 K D outMore))
    (A2 : Def K mg "without_arrow" 19 ["web", "kind", "other"] gB fB) (O2 : FnOk P w K mg base (L2.CX P w) 4 gB fB ["web", "kind", "other"] (sp3 K D outLess))
    (B1 : Def K mg "_law_arrow_due" 35 ["_law_page_here", "_law_sign", "_law_mate", "_law_is_more"] gX fX) (D1 : FnOk P w K mg base CX0 3 gX fX ["_law_page_here", "_law_sign", "_law_mate", "_law_is_more"] (spDue K)) (mp : mg "repr" = none) :
    Vow P w K mg base 7 g fd ["_law_page_here", "_law_sign", "_law_mate"] (spRt K (TT1 T0)) := by
  refine Vow.bodyC F scRt (fun vs H Q E h => ?_) (fun A fr s H vs Q E hq hr h => ?_)
  · obtain ⟨v, k, x, g, dk, dx, rfl, _⟩ := h
    rfl
  · obtain ⟨v, k, x, pg, dk, dx, rfl, hP, full, hk, hs, hx, hsx, tb, q⟩ := h
    obtain ⟨oc, od, kV, doc, pm, an, cdv, ct, osl, rfl, look, cdOk⟩ := S.F.ex
    have hr2 : Room 2 _ := hr.mono (by decide)
    have hr3 : Room 3 _ := hr.mono (by decide)
    have hr4 : Room 4 _ := hr.mono (by decide)
    have lam := fun {params : Arguments} {body : Expr} {scope : Scope} {t : XK → TE} {p lpos pos : Pos} (L : LamS (defScope (topS 36)) scope) (hdef) (hbind) (hbody) =>
      pe_lamcall (X := (cxOf CX0 P w K mg base nRt "_law_is_right" (defScope (topS 36)) g (.ref c) A fr s H E).nox) (T := TT1 T0) (TT := TTsaid K D) (k := 4) (a := "_law_ask") (Ng := nSaid) (params := params) (body := body) (scope := scope) (t := t) (p := p) (lpos := lpos) (pos := pos)
        (by rfl) S.m S.F.kp look cdOk S.b scSaid rfl (.inl rfl) (said_gives R.F R.b R.m GR mL ex hr2) TB rfl (List.mem_cons_self ..) (fun p hp _ => congrArg Prod.snd (List.mem_singleton.mp hp)) hr L hdef hbind hbody
    refine ⟨_, pss_cons (ps_set (i := 3) scRt.nd rfl (.inl rfl) (pe_lst (pa_cons (lam (lamS_by (by decide +kernel)) rfl (fun _ _ _ _ _ => rfl) (fun A' outer s' H' E' f' c' hr' => pe_call O1 hr' (by rfl) A1.m A1.F.kp A1.b .nil (passes_call (takes_of rfl rfl rfl rfl) (fun _ _ _ _ h => h)) (pa_cons (pv 0) (pa_cons (pv 1) (pa_cons (pv 2) pa_nil))))) pa_nil)))
      (pss_cons (ps_expr (pe_bm PySem.F.plainAttrs_list PySem.F.slot_list_append PySem.F.type_list_append mt_append (pv 3) (pa_cons (lam (lamS_by (by decide +kernel)) rfl (fun _ _ _ _ _ => rfl) (fun A' outer s' H' E' f' c' hr' => pe_call O2 hr' (by rfl) A2.m A2.F.kp A2.b .nil (passes_call (takes_of rfl rfl rfl rfl) (fun _ _ _ _ h => h)) (pa_cons (pv 0) (pa_cons (pv 1) (pa_cons (pv 2) pa_nil))))) pa_nil)))
      (pss_cons (ps_set (i := 4) scRt.nd rfl (.inl rfl) (pe_lst (pa_cons (pe_call D1 hr3 (by rfl) B1.m B1.F.kp B1.b .nil pass0 (pa_cons (pv 0) (pa_cons (pv 1) (pa_cons (pv 2) (pa_cons pe_bl pa_nil))))) (pa_cons (pe_call D1 hr3 (by rfl) B1.m B1.F.kp B1.b .nil pass0 (pa_cons (pv 0) (pa_cons (pv 1) (pa_cons (pv 2) (pa_cons pe_bl pa_nil))))) pa_nil))))
      (pss_cons (ps_if (pt_cmpR op_ne (pe_callB (call_show hq hr.units) (by rfl) mp boot_repr (pa_cons (pv 3) pa_nil)) (pe_callB (call_show hq hr.units) (by rfl) mp boot_repr (pa_cons (pv 4) pa_nil)) (nomark _)) (pss_one (ps_ret pe_bl)) pss_nil)
      (pss_cons (ps_if (pt_cmpR op_eq (pe_ix ix_tup (pe_ix ix_list (pv 4) pe_int (fun _ _ => rfl)) pe_int (fun _ _ => rfl)) pe_str (nomark _))
        (pss_one (ps_ret (pe_cmpR op_eq (pe_callB (call_show hq hr.units) (by rfl) mp boot_repr (pa_cons (pe_call O2 hr4 (by rfl) A2.m A2.F.kp A2.b .nil passF (pa_cons (pe_ix ix_tup (pe_ix ix_list (pv 4) pe_int (fun _ _ => rfl)) pe_int (fun _ _ => rfl)) (pa_cons (pv 1) (pa_cons (pv 2) pa_nil)))) pa_nil)) (pe_callB (call_show hq hr.units) (by rfl) mp boot_repr (pa_cons (pv 0) pa_nil)) (nomark _)))) pss_nil)
      (pss_one (ps_ret (pe_or (pe_cmpR op_ne (pe_ix ix_tup (pe_ix ix_list (pv 4) pe_int (fun _ _ => rfl)) pe_int (fun _ _ => rfl)) pe_str (nomark _))
        (pe_one (pe_cmpR op_eq (pe_callB (call_show hq hr.units) (by rfl) mp boot_repr (pa_cons (pe_call O1 hr4 (by rfl) A1.m A1.F.kp A1.b .nil passF (pa_cons (pe_ix ix_tup (pe_ix ix_list (pv 4) pe_int (fun _ _ => rfl)) pe_int (fun _ _ => rfl)) (pa_cons (pv 1) (pa_cons (pv 2) pa_nil)))) pa_nil)) (pe_callB (call_show hq hr.units) (by rfl) mp boot_repr (pa_cons (pv 0) pa_nil)) (nomark _)))))))))), ?_⟩
    refine told3 rfl rfl rfl hP full.neat hk hs hx hsx tb (fun a1 H1 e1 t1 n1 => ⟨(show 1 ≤ sizeLine by decide), fun L nL => ?_⟩)
    have nl : ∀ b o, H b = some o → (∀ ps, o ≠ .tbl ps) → b ≠ L := fun b o h n => ne_of_none (e1 b o h n) nL
    have x1 : ExtN H (upd H1 L (.lst [a1])) := e1.trans (ext_same (same_new nL))
    have y1 : Tabs (TT1 T0) (upd H1 L (.lst [a1])) := t1.ext (same_new nL)
    have m1 := n1.ts (ts_same (same_new (o := .lst [a1]) nL))
    have l1 : (upd H1 L (.lst [a1])) L = some (.lst [a1]) := upd_same
    generalize upd H1 L (.lst [a1]) = G1 at x1 y1 m1 l1 ⊢
    refine ⟨.ref L, rfl, .inl ⟨rfl, _, .inl (.inl l1)⟩, told3 rfl rfl rfl (hP.ts (ext_ts x1)) full.neat (dpE x1 hk) hs (dpE x1 hx) hsx y1 (fun a2 H2 e2 t2 n2 => ⟨L, _, _, rfl, rfl, ext_lst e2 l1, (show 1 < sizeLine by decide), ?_⟩)⟩
    have l2' := ext_lst e2 l1
    have x2 : ExtN H (upd H2 L (.lst [a1, a2])) := ext_own (x1.trans e2) nl
    have y2 : Tabs (TT1 T0) (upd H2 L (.lst [a1, a2])) := tabs_lst t2 l2'
    have l2 : (upd H2 L (.lst [a1, a2])) L = some (.lst [a1, a2]) := upd_same
    have m12 := (m1.ts (ext_ts e2)).ts (ts_lst (o := .lst [a1, a2]) l2')
    have m22 := n2.ts (ts_lst (o := .lst [a1, a2]) l2')
    dsimp only [List.cons_append, List.nil_append]
    generalize upd H2 L (.lst [a1, a2]) = G2 at x2 y2 l2 m12 m22 ⊢
    have hP2 := hP.ts (ext_ts x2)
    have hk2 := dpE x2 hk
    have hx2 := dpE x2 hx
    refine ⟨v, rfl, k, rfl, x, rfl, v, k, x, true, pg, dk, dx, rfl, hP2, full.neat, full.sub, hk2, hx2, fun b1 J1 s1 d1 => ?_⟩
    refine ⟨v, rfl, k, rfl, x, rfl, v, k, x, false, pg, dk, dx, rfl, hP2.same s1, full.neat, full.sub, dpS s1 hk2, dpS s1 hx2, fun b2 J2 s2 d2 => ⟨(show 2 ≤ sizeLine by decide), fun M nM => ?_⟩⟩
    have d1 : OutAt K J1 b1 (outMore pg dk dx) := d1
    have d2 : OutAt K J2 b2 (outLess pg dk dx) := d2
    have sM := same_new (o := .lst [b1, b2]) nM
    have sA := (s1.trans s2).trans sM
    have f1 := d1.ts (ts_same (s2.trans sM))
    have f2 := d2.ts (ts_same sM)
    have xA := x2.trans (ext_same sA)
    have yA := y2.ext sA
    have hM : (upd J2 M (.lst [b1, b2])) M = some (.lst [b1, b2]) := upd_same
    have lA := sA _ _ l2
    have g1 := m12.ts (ts_same sA)
    have g2 := m22.ts (ts_same sA)
    have hPA := hP2.same sA
    have hkA := dpS sA hk2
    have hxA := dpS sA hx2
    show tSeq _ _ _ _ (upd J2 M (.lst [b1, b2]))
    generalize upd J2 M (.lst [b1, b2]) = G at f1 f2 xA yA hM lA g1 g2 hPA hkA hxA ⊢
    have sh := sh_outs (outMore_ok (dk := dk) (dx := dx) full) (outLess_ok (dk := dk) (dx := dx) full)
    have sp := sh_pg full.neat.ok
    refine ⟨_, rfl, L, .list [dOut (outMore pg dk dx), dOut (outLess pg dk dx)], rfl, .lst (.inl (.inl lA)) (.cons g1.dp (.cons g2.dp .nil)), sh.ok, sh.nd, sh.dp, Nat.le_trans sh.ln size16, ?_⟩
    refine ⟨_, rfl, M, .list [dOut (outMore pg dk dx), dOut (outLess pg dk dx)], rfl, .lst (.inl (.inl hM)) (.cons f1.dp (.cons f2.dp .nil)), sh.ok, sh.nd, sh.dp, Nat.le_trans sh.ln size16, rfl, _, rfl, iteNS rfl ?_⟩
    cases z1 : outMore pg dk dx with
    | yes g' =>
      rw [z1] at f1
      obtain ⟨t, v', rfl, ht, hv'⟩ := f1
      obtain ⟨nt', back⟩ := back_more full z1
      refine ⟨.ref M, rfl, M, _, 0, .ref t, rfl, rfl, .inl (.inl hM), atI_nat (j := 0) rfl, t, _, 0, .str "told", rfl, rfl, .inl (.inl ht), atI_nat (j := 0) rfl, rfl, _, rfl, ?_⟩
      rw [decide_eq_true (show V.str "told" = V.str "told" from rfl)]
      refine iteT ⟨.ref M, rfl, M, _, 0, .ref t, rfl, rfl, .inl (.inl hM), atI_nat (j := 0) rfl, t, _, 1, v', rfl, rfl, .inl (.inl ht), atI_nat (j := 1) rfl, k, rfl, x, rfl, v', k, x, g', dk, dx, rfl, hv', nt', hkA, hs, hxA, hsx, res_yes back (fun v2 J s2 hv2 => ?_)⟩
      obtain ⟨w2, _, _, rfl, _⟩ := id hv2
      obtain ⟨pp, _, _, rfl, _⟩ := id hPA
      refine ⟨w2, dPg pg, rfl, hv2.dp, sp.ok, sp.nd, Nat.le_trans sp.dp (by decide), Nat.le_trans sp.ln (by decide), _, rfl, pp, dPg pg, rfl, (hPA.same s2).dp, sp.ok, sp.nd, Nat.le_trans sp.dp (by decide), Nat.le_trans sp.ln (by decide), rfl, ?_⟩
      rw [decide_eq_true rfl]
      exact q _ (xA.trans (ext_same s2)) (yA.ext s2)
    | no w1 =>
      rw [z1] at f1
      obtain ⟨t, rfl, ht⟩ := f1
      refine ⟨.ref M, rfl, M, _, 0, .ref t, rfl, rfl, .inl (.inl hM), atI_nat (j := 0) rfl, t, _, 0, .str "no", rfl, rfl, .inl (.inl ht), atI_nat (j := 0) rfl, rfl, _, rfl, ?_⟩
      refine iteF ?_
      cases z2 : outLess pg dk dx with
      | yes g' =>
        rw [z2] at f2
        obtain ⟨t2, v', rfl, ht2, hv'⟩ := f2
        obtain ⟨nt', back⟩ := back_less full z2
        refine ⟨.ref M, rfl, M, _, 1, .ref t2, rfl, rfl, .inl (.inl hM), atI_nat (j := 1) rfl, t2, _, 0, .str "told", rfl, rfl, .inl (.inl ht2), atI_nat (j := 0) rfl, rfl, _, rfl, ?_⟩
        refine iteNS rfl ⟨.ref M, rfl, M, _, 1, .ref t2, rfl, rfl, .inl (.inl hM), atI_nat (j := 1) rfl, t2, _, 1, v', rfl, rfl, .inl (.inl ht2), atI_nat (j := 1) rfl, k, rfl, x, rfl, v', k, x, g', dk, dx, rfl, hv', nt', hkA, hs, hxA, hsx, res_yes back (fun v2 J s2 hv2 => ?_)⟩
        obtain ⟨w2, _, _, rfl, _⟩ := id hv2
        obtain ⟨pp, _, _, rfl, _⟩ := id hPA
        refine ⟨w2, dPg pg, rfl, hv2.dp, sp.ok, sp.nd, Nat.le_trans sp.dp (by decide), Nat.le_trans sp.ln (by decide), _, rfl, pp, dPg pg, rfl, (hPA.same s2).dp, sp.ok, sp.nd, Nat.le_trans sp.dp (by decide), Nat.le_trans sp.ln (by decide), rfl, ?_⟩
        rw [decide_eq_true rfl]
        exact q _ (xA.trans (ext_same s2)) (yA.ext s2)
      | no w2 =>
        rw [z2] at f2
        obtain ⟨t2, rfl, ht2⟩ := f2
        refine ⟨.ref M, rfl, M, _, 1, .ref t2, rfl, rfl, .inl (.inl hM), atI_nat (j := 1) rfl, t2, _, 0, .str "no", rfl, rfl, .inl (.inl ht2), atI_nat (j := 0) rfl, rfl, _, rfl, ?_⟩
        exact iteT (q _ xA yA)
end
end Kn


namespace Kn
open PySem PySem.Spec PyProof.Rows L2 LamX
theorem dp_mem {K : PySem.W.Frag} {H : Hp} : ∀ {xs : List V} {ds : List PyData}, DpAll K H xs ds → ∀ x ∈ xs, ∃ d ∈ ds, Dp K H x d
  | _, _, .nil, x, hx => by cases hx
  | _, _, .cons a b, x, hx => by
    rcases List.mem_cons.mp hx with rfl | hx
    · exact ⟨_, List.mem_cons_self .., a⟩
    · obtain ⟨d, hd, q⟩ := dp_mem b x hx
      exact ⟨d, List.mem_cons_of_mem _ hd, q⟩
theorem dp_len {K : PySem.W.Frag} {H : Hp} : ∀ {xs : List V} {ds : List PyData}, DpAll K H xs ds → xs.length = ds.length
  | _, _, .nil => rfl
  | _, _, .cons a b => congrArg Nat.succ (dp_len b)
theorem odds_shaped : ∀ d ∈ odds, SeqAt.shaped d = true := by
  have all : (odds.all fun d => SeqAt.shaped d) = true := by decide +kernel
  exact List.all_eq_true.mp all
theorem ent_shaped {e : Ent} (h : e.nice) : SeqAt.shaped (dEnt e) = true := by
  obtain ⟨a, b⟩ := lay_texts e.row fun s hs => names_shaped s (h.2.2.1 s hs)
  have q := (Bool.and_eq_true_iff.mp (names_shaped _ h.1)).1
  unfold SeqAt.shaped
  have h1 : PyData.canLay0 (dEnt e) = true := by
    show (PyData.canLay0 (.str e.name) && (true && (true && (PyData.canLayAll0 (e.row.map PyData.str) && true)))) = true
    rw [q, a]
    rfl
  have h2 : PyData.depth (dEnt e) = 2 := by
    show max (PyData.depth (.str e.name)) (max (PyData.depth (.int e.fee)) (max (PyData.depth (.bool e.has)) (max (PyData.depthAll (e.row.map PyData.str) + 1) 0))) + 1 = 2
    rw [b]
    rfl
  rw [h1, h2]
  rfl
theorem more_shaped {a : Str} (h : a ∈ names) : SeqAt.shaped (.str (a ++ "q")) = true := by
  have all : (names.all fun a => SeqAt.shaped (.str (a ++ "q"))) = true := by decide +kernel
  exact List.all_eq_true.mp all a h
theorem one_shaped {a : Str} (h : a ∈ names) : SeqAt.shaped (.tuple [.str a]) = true := by
  have all : (names.all fun a => SeqAt.shaped (.tuple [.str a])) = true := by decide +kernel
  exact List.all_eq_true.mp all a h
abbrev nLaw : List Str := ["_law_script", "_law_feed", "_law_lap", "_law_page_here", "_law_kept", "_law_labels_here", "_law_sign", "_law_odd", "_law_lone", "_law_told", "_law_due", "_law_mate"]
theorem scLaw : FnScope nLaw ["_law_script"] (defScope (topS 37)) := ⟨rfl, rfl, rfl, by decide +kernel, rfl, by decide +kernel, by decide +kernel⟩
def spLaw (K : PySem.W.Frag) (T : List (Addr × Str)) : Sp := fun vs H Q _ => ∃ (a : Addr) (ns : List Int), vs = [.ref a] ∧ SqL K H a (ns.map V.int) ∧ ns.length ≤ 63 ∧ Tabs T H ∧ ∀ H', Q (.bl true) H'
def gLone (row : List Str) : Pg := ⟨[⟨"a", 1, false, row⟩, ⟨"b", 1, true, []⟩, ⟨"c", 2, false, []⟩], "c"⟩
theorem abc : ("a" : Str) ∈ names ∧ ("b" : Str) ∈ names ∧ ("c" : Str) ∈ names := by decide +kernel
theorem lone_asc : Asc ["a", "c"] ∧ Asc [("a" : Str), "b", "c"] := by
  have l1 : Lt "a" "b" := by
    show ltCps _ _ = true
    decide +kernel
  have l2 : Lt "b" "c" := by
    show ltCps _ _ = true
    decide +kernel
  have l3 : Lt "a" "c" := by
    show ltCps _ _ = true
    decide +kernel
  refine ⟨List.pairwise_cons.mpr ⟨fun y hy => ?_, List.pairwise_singleton _ _⟩, List.pairwise_cons.mpr ⟨fun y hy => ?_, List.pairwise_cons.mpr ⟨fun y hy => ?_, List.pairwise_singleton _ _⟩⟩⟩
  · rw [List.mem_singleton.mp hy]
    exact l3
  · simp only [List.mem_cons, List.not_mem_nil, or_false] at hy
    rcases hy with rfl | rfl
    · exact l1
    · exact l3
  · rw [List.mem_singleton.mp hy]
    exact l2
theorem full_lone : (gLone ["a", "c"]).full := by
  obtain ⟨na, nb, nc⟩ := abc
  have nm : ∀ e ∈ (gLone ["a", "c"]).es, e.name ∈ names ∧ e.fee.natAbs < 10 ^ 60 ∧ (∀ s ∈ e.row, s ∈ names) ∧ Asc e.row ∧ e.row.length ≤ 5 ∧ ∀ s ∈ e.row, s ∈ (gLone ["a", "c"]).es.map (·.name) := by
    intro e he
    simp only [gLone, List.mem_cons, List.not_mem_nil, or_false] at he
    rcases he with rfl | rfl | rfl
    · refine ⟨na, by decide, fun s hs => ?_, lone_asc.1, (show 2 ≤ 5 by decide), fun s hs => ?_⟩
      all_goals
        simp only [List.mem_cons, List.not_mem_nil, or_false] at hs
        rcases hs with rfl | rfl
      · exact na
      · exact nc
      · exact List.mem_cons_self ..
      · exact List.mem_cons_of_mem _ (List.mem_cons_of_mem _ (List.mem_cons_self ..))
    · exact ⟨nb, by decide, (fun s hs => by cases hs), List.Pairwise.nil, Nat.zero_le _, (fun s hs => by cases hs)⟩
    · exact ⟨nc, by decide, (fun s hs => by cases hs), List.Pairwise.nil, Nat.zero_le _, (fun s hs => by cases hs)⟩
  refine ⟨⟨⟨(show 3 ≤ 12 by decide), fun e he => ?_, names_fit _ nc⟩, fun e he => (nm e he).1, fun e he => ?_⟩, fun e he => ?_, lone_asc.2, fun e he => (nm e he).2.2.2.2.1⟩
  · obtain ⟨h1, h2, h3, h4, h5, h6⟩ := nm e he
    exact ⟨names_fit _ h1, h2, Nat.le_trans h5 (by decide), fun s hs => names_fit s (h3 s hs)⟩
  · obtain ⟨h1, h2, h3, h4, h5, h6⟩ := nm e he
    exact ⟨h3, h4, Nat.le_trans h5 (by decide)⟩
  · exact (nm e he).2.2.2.2.2
theorem lone_more : outMore (gLone ["a", "c"]) (.str "a") (.str "b") = .yes (gLone ["a", "b", "c"]) := by kernel_rfl
theorem sh_two {a b : Pg} (ha : a.ok) (hb : b.ok) : Sh 20 16777216 (.list [dPg a, dPg b]) := by
  refine (sh_list (k := 4) (B := 100000) (n := 2) ?_ (by simp)).mono (by decide) (by decide)
  intro d hd
  simp only [List.mem_cons, List.not_mem_nil, or_false] at hd
  rcases hd with rfl | rfl
  · exact sh_pg ha
  · exact sh_pg hb
section
variable {K : PySem.W.Frag}
theorem page3 {row : List Str} {n1 n2 n3 c : Str} {f1 f2 f3 : Int} {b1 b2 b3 : Bool} {ta : TA} {σ : L2.St} {J : Hp} {Q : VK} (arg : ∀ (R : List V → Hp → Prop), R (row.map V.str) J → ta σ J R) (few : row.length ≤ 8)
    (k : ∀ (v : V) (J' : Hp), Same J J' → PgAt K J' v ⟨[⟨n1, f1, b1, row⟩, ⟨n2, f2, b2, []⟩, ⟨n3, f3, b3, []⟩], c⟩ → Q v J') :
    tTup (tCons (tTup (tCons (tTup (tCons (tC (.str n1)) (tCons (tC (.int f1)) (tCons (tC (.bl b1)) (tCons (tTup ta) tNil))))) (tCons (tTup (tCons (tC (.str n2)) (tCons (tC (.int f2)) (tCons (tC (.bl b2)) (tCons (tTup tNil) tNil))))) (tCons (tTup (tCons (tC (.str n3)) (tCons (tC (.int f3)) (tCons (tC (.bl b3)) (tCons (tTup tNil) tNil))))) tNil)))) (tCons (tC (.str c)) tNil)) σ J Q := by
  refine arg _ ⟨by rw [List.length_map]; exact Nat.le_trans few (by decide), fun p1 m1 => ⟨(show 4 ≤ sizeLine by decide), fun p2 m2 => ⟨Nat.zero_le _, fun p3 m3 => ⟨(show 4 ≤ sizeLine by decide), fun p4 m4 => ⟨Nat.zero_le _, fun p5 m5 => ⟨(show 4 ≤ sizeLine by decide), fun p6 m6 => ⟨(show 3 ≤ sizeLine by decide), fun p7 m7 => ⟨(show 2 ≤ sizeLine by decide), fun p8 m8 => ?_⟩⟩⟩⟩⟩⟩⟩⟩
  have z1 := same_new (o := .tup (row.map V.str)) m1
  have z2 := same_new (o := .tup [.str n1, .int f1, .bl b1, .ref p1]) m2
  have z3 := same_new (o := .tup []) m3
  have z4 := same_new (o := .tup [.str n2, .int f2, .bl b2, .ref p3]) m4
  have z5 := same_new (o := .tup []) m5
  have z6 := same_new (o := .tup [.str n3, .int f3, .bl b3, .ref p5]) m6
  have z7 := same_new (o := .tup [.ref p2, .ref p4, .ref p6]) m7
  have z8 := same_new (o := .tup [.ref p7, .str c]) m8
  have t67 := (z6.trans z7).trans z8
  have t57 := z5.trans t67
  have t47 := z4.trans t57
  have t37 := z3.trans t47
  have t27 := z2.trans t37
  refine k (.ref p8) _ (z1.trans t27) ⟨p8, p7, [.ref p2, .ref p4, .ref p6], rfl, .inl (.inl upd_same), tupS z8 (.inl (.inl upd_same)), .cons ⟨p2, p1, rfl, ?_, ?_⟩ (.cons ⟨p4, p3, rfl, ?_, ?_⟩ (.cons ⟨p6, p5, rfl, ?_, ?_⟩ .nil))⟩
  · exact tupS t37 (.inl (.inl upd_same))
  · exact tupS t27 (.inl (.inl upd_same))
  · exact tupS t57 (.inl (.inl upd_same))
  · exact tupS t47 (.inl (.inl upd_same))
  · exact tupS (z7.trans z8) (.inl (.inl upd_same))
  · exact tupS t67 (.inl (.inl upd_same))
end
end Kn


namespace Kn
open PySem PySem.Spec PyProof.Rows L2 LamX
section
variable {P : Program} {w : World} {K : PySem.W.Frag} {mg : Str → Option Value} {base : Heap}
theorem ok_law {g T0 D gB gP gN gL gA gB' gO gV : Addr} {fd fB fP fN fL fA fB' fO fV : FuncData} (F : Fun K "law" "law" (topS 37) g fd)
    (B : Def K mg "_law_start" 22 ["_law_script"] gB fB) (OB : FnOk P w K mg base CX0 1 gB fB ["_law_script"] (spStart K))
    (G : Def K mg "_law_page" 26 ["_law_feed", "_law_most"] gP fP) (OG : FnOk P w K mg base CX0 4 gP fP ["_law_feed", "_law_most"] (spPg K))
    (N : Def K mg "_law_any" 24 ["_law_feed", "_law_some"] gN fN) (ON : FnOk P w K mg base CX0 2 gN fN ["_law_feed", "_law_some"] (spAny K))
    (LL : Def K mg "_law_labels_of" 31 ["_law_page_here"] gL fL) (OL : FnOk P w K mg base CX0 1 gL fL ["_law_page_here"] (spLabOf K))
    (O : Def K mg "_law_odds" 30 [] gO fO) (OO : FnOk P w K mg base CX0 1 gO fO [] (spOdds K))
    (A1 : Def K mg "with_arrow" 18 ["web", "kind", "other"] gA fA) (O1 : FnOk P w K mg base (L2.CX P w) 4 gA fA ["web", "kind", "other"] (sp3 K D outMore)) (k1 : ∀ (s : Shared) (u v z : Value), BindsTo s fA ⟨[], [("other", u), ("kind", v), ("web", z)]⟩ [("web", z), ("kind", v), ("other", u)])
    (A2 : Def K mg "without_arrow" 19 ["web", "kind", "other"] gB' fB') (O2 : FnOk P w K mg base (L2.CX P w) 4 gB' fB' ["web", "kind", "other"] (sp3 K D outLess)) (k2 : ∀ (s : Shared) (u v z : Value), BindsTo s fB' ⟨[], [("other", u), ("web", v), ("kind", z)]⟩ [("web", v), ("kind", z), ("other", u)])
    (kV : PySem.W.keepIn K (.ref gV) = true) (bV : Binds K fV ["_law_page_here", "_law_sign", "_law_mate"] []) (mV : mg "_law_is_right" = some (.ref gV)) (OV : Vow P w K mg base 7 gV fV ["_law_page_here", "_law_sign", "_law_mate"] (spRt K (TT1 T0)))
    (mr : mg "range" = none) (mp : mg "repr" = none) :
    Vow P w K mg base 8 g fd ["_law_script"] (spLaw K (TT1 T0)) := by
  refine Vow.body F scLaw (fun vs H Q E h => ?_) (fun cdv A outer s H vs Q E hq hr h => ?_)
  · obtain ⟨a, ns, rfl, _⟩ := h
    rfl
  · obtain ⟨a0, ns0, rfl, hS, hl, tb, q⟩ := h
    have hr1 : Room 1 _ := hr.mono (by decide)
    have hr2 : Room 2 _ := hr.mono (by decide)
    have hr4 : Room 4 _ := hr.mono (by decide)
    refine ⟨_, pss_cons (ps_set (i := 1) scLaw.nd rfl (.inl rfl) (pe_call OB hr1 (by rfl) B.m B.F.kp B.b .nil pass0 (pa_cons (pv 0) pa_nil)))
      (pss_cons (ps_for PassesOwn.never rfl (pi_range1 (by rfl) mr (pa_cons pe_int pa_nil)) (pg_name (i := 2) scLaw.nd rfl (.inl rfl))
        (pss_cons (ps_set (i := 3) scLaw.nd rfl (.inr rfl) (pe_call OG hr4 (by rfl) G.m G.F.kp G.b .nil pass0 (pa_cons (pv 1) (pa_cons pe_int pa_nil))))
        (pss_cons (ps_par (i := 4) (j := 5) (by rfl) scLaw.nd rfl rfl (by decide) rfl rfl (pa_cons (pe_callB (call_show hq hr.units) (by rfl) mp boot_repr (pa_cons (pv 3) pa_nil)) (pa_cons (pe_call OL hr1 (by rfl) LL.m LL.F.kp LL.b .nil pass0 (pa_cons (pv 3) pa_nil)) pa_nil)) (by rfl))
        (pss_cons (ps_for PassesOwn.never rfl (pi_list (pv 5)) (pg_name (i := 6) scLaw.nd rfl (.inr rfl))
          (pss_one (ps_if (pt_cmpR (op_neD hr.units) (pe_lc (own := [("_law_mate", 11)]) (g := gName 11) (by rfl) scLaw.nd (pi_list (pv 5)) (blkOk_by (own := [("_law_mate", 11)]) (N := nLaw) (sc := defScope (topS 37)) (by decide +kernel))
              (fun _ _ _ _ _ => pg_name (i := 11) scLaw.nd rfl (Or.inl rfl)) (fun _ _ _ _ _ => pts_one (pt_not (pt_val (pe_vow OV hq hr (by rfl) mV kV bV (pa_cons (pv 3) (pa_cons (pv 6) (pa_cons (pv 11) pa_nil))))))) (fun _ _ _ _ _ => pv 11)) (pe_lst pa_nil) (nomark _)) (pss_one (ps_ret pe_bl)) pss_nil)))
        (pss_cons (ps_set (i := 6) scLaw.nd rfl (.inr rfl) (pe_call ON hr2 (by rfl) N.m N.F.kp N.b .nil pass0 (pa_cons (pv 1) (pa_cons (pv 5) pa_nil))))
        (pss_cons (ps_for PassesOwn.never rfl (pi_list (pe_op op_cat (pe_call0 OO hr1 (by rfl) O.m O.F.kp O.b .nil pass0)
            (pe_lst (pa_cons (pe_ix ix_tup (pe_ix ix_tup (pv 3) pe_int (fun _ _ => rfl)) pe_int (fun _ _ => rfl)) (pa_cons (pe_tup (pa_cons (pv 6) pa_nil)) (pa_cons (pe_op op_add_str (pv 6) pe_str) pa_nil)))))) (pg_name (i := 7) scLaw.nd rfl (.inl rfl))
          (pss_cons (ps_if (PW.pt (pw_or (pt_not (pt_val (pe_vow OV hq hr (by rfl) mV kV bV (pa_cons (pv 3) (pa_cons (pv 7) (pa_cons (pv 6) pa_nil)))))) (pw_or1 (pt_not (pt_val (pe_vow OV hq hr (by rfl) mV kV bV (pa_cons (pv 3) (pa_cons (pv 6) (pa_cons (pv 7) pa_nil)))))))))
            (pss_one (ps_ret pe_bl)) pss_nil)
          (pss_one (ps_if (pt_not (pt_val (pe_vow OV hq hr (by rfl) mV kV bV (pa_cons (pv 3) (pa_cons (pv 7) (pa_cons (pv 7) pa_nil)))))) (pss_one (ps_ret pe_bl)) pss_nil))))
        (pss_one (ps_if (pt_cmpR op_ne (pe_callB (call_show hq hr.units) (by rfl) mp boot_repr (pa_cons (pv 3) pa_nil)) (pv 4) (nomark _)) (pss_one (ps_ret pe_bl)) pss_nil))))))))
      (pss_cons (ps_set (i := 8) scLaw.nd rfl (.inl rfl) (pe_tup (pa_cons (pe_tup (pa_cons (pe_tup (pa_cons pe_str (pa_cons pe_int (pa_cons pe_bl (pa_cons (pe_tup (pa_cons pe_str (pa_cons pe_str pa_nil))) pa_nil)))))
          (pa_cons (pe_tup (pa_cons pe_str (pa_cons pe_int (pa_cons pe_bl (pa_cons (pe_tup pa_nil) pa_nil))))) (pa_cons (pe_tup (pa_cons pe_str (pa_cons pe_int (pa_cons pe_bl (pa_cons (pe_tup pa_nil) pa_nil))))) pa_nil)))) (pa_cons pe_str pa_nil))))
      (pss_cons (ps_set (i := 9) scLaw.nd rfl (.inl rfl) (pe_kw3 O1 hr4 (by rfl) A1.m A1.F.kp k1 pe_str pe_str (pv 8)))
      (pss_cons (ps_set (i := 10) scLaw.nd rfl (.inl rfl) (pe_tup (pa_cons (pe_tup (pa_cons (pe_tup (pa_cons pe_str (pa_cons pe_int (pa_cons pe_bl (pa_cons (pe_tup (pa_cons pe_str (pa_cons pe_str (pa_cons pe_str pa_nil)))) pa_nil)))))
          (pa_cons (pe_tup (pa_cons pe_str (pa_cons pe_int (pa_cons pe_bl (pa_cons (pe_tup pa_nil) pa_nil))))) (pa_cons (pe_tup (pa_cons pe_str (pa_cons pe_int (pa_cons pe_bl (pa_cons (pe_tup pa_nil) pa_nil))))) pa_nil)))) (pa_cons pe_str pa_nil))))
      (pss_one (ps_ret (pe_cmpR op_eq (pe_callB (call_show hq hr.units) (by rfl) mp boot_repr (pa_cons (pe_lst (pa_cons (pv 9) (pa_cons (pe_kw3b O2 hr4 (by rfl) A2.m A2.F.kp k2 pe_str (pv 9) pe_str) pa_nil))) pa_nil))
        (pe_callB (call_show hq hr.units) (by rfl) mp boot_repr (pa_cons (pe_lst (pa_cons (pv 10) (pa_cons (pv 8) pa_nil))) pa_nil)) (nomark _)))))))), ?_⟩
    refine ⟨.ref a0, rfl, a0, ns0, rfl, hS, hl, fun f a ms H1 _ sm1 fd1 => ?_⟩
    have tb1 := tb.ext sm1
    refine ⟨2, rfl, by decide, by decide, for_range (lo := 0) (n := (2 : Int).toNat) (fun i σ J => (∃ y2 y3 y4 y5 y6 y7 y8 y9 y10 y11, σ = [some (.ref a0), some (.ref f), y2, y3, y4, y5, y6, y7, y8, y9, y10, y11]) ∧ Fd f a ms J (1000 * i) ∧ Tabs (TT1 T0) J)
      ⟨⟨none, none, none, none, none, none, none, none, none, none, rfl⟩, fd1, tb1⟩ ?_ ?_⟩
    · rintro i σ J hi ⟨⟨y2, y3, y4, y5, y6, y7, y8, y9, y10, y11, rfl⟩, fdJ, tbJ⟩
      have hi : i < 2 := hi
      refine ⟨_, rfl, f, a, ms, _, 5, rfl, by decide, by decide, fdJ, by omega, fun v pg J1 pg1 ok1 nice1 asc1 own1 asks1 g0 g5 k1 fd1 => ?_⟩
      have short : ∀ e ∈ pg.es, e.row.length ≤ 5 := fun e he => Nat.le_trans (own1 e he).2.length_le (by rw [List.length_map]; exact g5)
      have full : pg.full := ⟨⟨ok1, fun e he => (nice1 e he).1, fun e he => ⟨(nice1 e he).2.2.1, (nice1 e he).2.2.2, Nat.le_trans (short e he) (by decide)⟩⟩, fun e he s hs => (own1 e he).2.subset hs, asc1, short⟩
      have tb1 := tabs_fd tbJ fdJ k1
      obtain ⟨pp, pq, ws, rfl, hp, hw, hE⟩ := id pg1
      have sp := sh_pg ok1
      refine ⟨.ref pp, rfl, pp, dPg pg, rfl, pg1.dp, sp.ok, sp.nd, Nat.le_trans sp.dp (by decide), Nat.le_trans sp.ln (by decide), .ref pp, rfl, .ref pp, pg, rfl, pg1, ok1, fun LB J2 s2 nLB hLB => ⟨_, _, rfl, ?_⟩⟩
      have fd2 := fd1.same s2
      have tb2 := tb1.ext s2
      have pg2 := pg1.same s2
      have sign : ∀ y ∈ (pg.es.map (·.name)).map V.str, ∃ x, y = .str x ∧ x ∈ names := fun y hy => by
        obtain ⟨x, hx, rfl⟩ := List.mem_map.mp hy
        obtain ⟨e, he, rfl⟩ := List.mem_map.mp hx
        exact ⟨_, rfl, (nice1 e he).1⟩
      refine ⟨.ref LB, rfl, LB, rfl, ⟨_, .inl (.inl hLB)⟩, for_list (K := K) (a := LB) (xs := (pg.es.map (·.name)).map V.str) (fun j σ X => (∃ y6 y7 y8 y9 y10 y11, σ = [some (.ref a0), some (.ref f), some (.int (0 + (i : Int))), some (.ref pp), some (.str (dPg pg).shown), some (.ref LB), y6, y7, y8, y9, y10, y11]) ∧ ExtN J2 X ∧ Tabs (TT1 T0) X) ?_ ?_ ?_ ?_⟩
      · exact ⟨⟨y6, y7, y8, y9, y10, y11, rfl⟩, ExtN.refl J2, tb2⟩
      · exact fun j σ X _ h => seqE h.2.1 (.inl (.inl hLB))
      · rintro j x σ X hx ⟨⟨y6, y7, y8, y9, y10, y11, rfl⟩, eX, tX⟩
        obtain ⟨x, rfl, hxn⟩ := sign x (List.mem_of_getElem? hx)
        have hLX := ext_lst eX hLB
        refine ⟨.ref LB, rfl, LB, rfl, ⟨_, .inl (.inl hLX)⟩, fun D2 nD2 => ?_⟩
        refine lc_list (K := K) (a := LB) (xs := (pg.es.map (·.name)).map V.str) (fun j Y => ExtN X Y ∧ Tabs (TT1 T0) Y ∧ Y D2 = some (.lst [])) ⟨ext_same (same_new nD2), tX.ext (same_new nD2), upd_same⟩ (fun j Y _ h => seqE h.1 (.inl (.inl hLX))) ?_ ?_
        · rintro j' y Y hy ⟨eY, tY, eD2⟩
          obtain ⟨y, rfl, hyn⟩ := sign y (List.mem_of_getElem? hy)
          refine ⟨rfl, ?_⟩
          refine ⟨_, rfl, _, rfl, _, rfl, .ref pp, .str x, .str y, pg, .str x, .str y, rfl, (pg2.ts (ext_ts eX)).ts (ext_ts eY), full, .str x, names_shaped x hxn, .str y, names_shaped y hyn, tY, fun X' e' t' => ⟨true, rfl, ?_⟩⟩
          exact iteF ⟨eY.trans e', t', ext_lst e' eD2⟩
        · rintro Y ⟨eY, tY, eD2⟩
          refine ⟨Nat.zero_le _, fun z2 nz2 => ⟨.list [], .list [], .lst (.inl (.inl (same_new nz2 _ _ eD2))) .nil, .lst (.inl (.inl upd_same)) .nil, rfl, rfl, _, rfl, ?_⟩⟩
          exact iteF ⟨⟨_, _, _, _, _, _, rfl⟩, (eX.trans eY).trans (ext_same (same_new nz2)), tY.ext (same_new nz2)⟩
      · rintro σ X ⟨⟨y6, y7, y8, y9, y10, y11, rfl⟩, eX, tX⟩
        have fdX := fd2.ext eX
        have pgX := pg2.ts (ext_ts eX)
        have hLX := ext_lst eX hLB
        refine ⟨.ref f, rfl, .ref LB, rfl, f, a, LB, ms, _, _, rfl, fdX, by omega, .inl (.inl hLX), (by rw [List.length_map, List.length_map]; exact g0), (by rw [List.length_map, List.length_map]; exact Nat.le_trans g5 (by decide)), fun x0 J3 hx0 k3 fd3 => ?_⟩
        obtain ⟨s0, rfl, hs0⟩ := sign x0 hx0
        have up : TS J1 J3 := ((ts_same s2).trans (ext_ts eX)).trans (ts_fd fdX k3)
        have pg3 := pg1.ts up
        have tb3 := tabs_fd tX fdX k3
        have hp3 := tupT up hp
        have hw3 := tupT up hw
        have hE3 := hE.ts up
        have lw : 0 < ws.length := by
          rw [hE.len]
          exact g0
        have hw0 : ws[0]? = some ws[0] := List.getElem?_eq_getElem lw
        generalize ws[0] = w0 at hw0
        obtain ⟨e0, he0, hv0⟩ := hE3.get hw0
        have n0 := nice1 e0 (List.mem_of_getElem? he0)
        obtain ⟨p0, r0, rfl, hp0, hr0⟩ := id hv0
        refine ⟨rfl, fun L0 xs J4 s4 hL0 hd0 => ?_⟩
        have l0 : xs.length = 13 := dp_len hd0
        refine ⟨.ref pp, rfl, pp, _, 0, .ref pq, rfl, rfl, tupS s4 hp3, atI_nat (j := 0) rfl, pq, ws, 0, .ref p0, rfl, rfl, tupS s4 hw3, atI_nat (j := 0) hw0, ?_⟩
        refine ⟨_, rfl, (show 1 ≤ sizeLine by decide), fun t1 n1 => ?_⟩
        have z1 := same_new (o := .tup [.str s0]) n1
        refine ⟨_, rfl, _, _, rfl, rfl, Nat.le_trans (Nat.add_le_add (names_fit _ hs0).1 (fit_of "q" (n := 1) (by decide)).1) (by decide), (show 3 ≤ sizeLine by decide), fun R nR => ?_⟩
        have zR := same_new (o := .lst [.ref p0, .ref t1, .str (s0 ++ "q")]) nR
        refine ⟨L0, R, xs, _, rfl, rfl, zR _ _ (z1 _ _ hL0), upd_same, (by rw [l0]; exact (show 13 + 3 ≤ sizeLine by decide)), fun O' nO => ?_⟩
        have zO := same_new (o := .lst (xs ++ [.ref p0, .ref t1, .str (s0 ++ "q")])) nO
        have sA := (z1.trans zR).trans zO
        have eO : (upd (upd (upd J4 t1 (.tup [.str s0])) R (.lst [.ref p0, .ref t1, .str (s0 ++ "q")])) O' (.lst (xs ++ [.ref p0, .ref t1, .str (s0 ++ "q")]))) O' = some (.lst (xs ++ [.ref p0, .ref t1, .str (s0 ++ "q")])) := upd_same
        have e1 := (zR.trans zO) _ _ (upd_same (H := J4) (a := t1) (o := .tup [.str s0]))
        have pg5 := (pg3.same s4).same sA
        have hv5 := (hv0.same s4).same sA
        have hd5 := dpEs (ext_same sA) hd0
        have fd5 := (fd3.same s4).same sA
        have tb5 := (tb3.ext s4).ext sA
        generalize upd (upd (upd J4 t1 (.tup [.str s0])) R (.lst [.ref p0, .ref t1, .str (s0 ++ "q")])) O' (.lst (xs ++ [.ref p0, .ref t1, .str (s0 ++ "q")])) = J5 at eO e1 pg5 hv5 hd5 fd5 tb5 ⊢
        have all : ∀ x ∈ xs ++ [.ref p0, .ref t1, .str (s0 ++ "q")], ∃ d, Dp K J5 x d ∧ SeqAt.shaped d = true := by
          intro x hx
          rcases List.mem_append.mp hx with hx | hx
          · obtain ⟨d, hd, dp⟩ := dp_mem hd5 x hx
            exact ⟨d, dp, odds_shaped d hd⟩
          · simp only [List.mem_cons, List.not_mem_nil, or_false] at hx
            rcases hx with rfl | rfl | rfl
            · exact ⟨dEnt e0, hv5.dp, ent_shaped n0⟩
            · exact ⟨_, .tup (.inl (.inl e1)) (.cons (.str _) .nil), one_shaped hs0⟩
            · exact ⟨_, .str _, more_shaped hs0⟩
        generalize xs ++ [.ref p0, .ref t1, .str (s0 ++ "q")] = os at all eO
        refine ⟨O', rfl, ⟨_, .inl (.inl eO)⟩, for_list (K := K) (a := O') (xs := os) (fun j σ Y => (∃ y7 y8 y9 y10 y11, σ = [some (.ref a0), some (.ref f), some (.int (0 + (i : Int))), some (.ref pp), some (.str (dPg pg).shown), some (.ref LB), some (.str s0), y7, y8, y9, y10, y11]) ∧ ExtN J5 Y ∧ Tabs (TT1 T0) Y) ?_ ?_ ?_ ?_⟩
        · exact ⟨⟨y7, y8, y9, y10, y11, rfl⟩, ExtN.refl J5, tb5⟩
        · exact fun j σ Y _ h => seqE h.2.1 (.inl (.inl eO))
        · rintro j x σ Y hx ⟨⟨y7, y8, y9, y10, y11, rfl⟩, eY, tY⟩
          obtain ⟨d, dp, shd⟩ := all x (List.mem_of_getElem? hx)
          have shs := names_shaped s0 hs0
          refine ⟨_, rfl, _, rfl, _, rfl, .ref pp, x, .str s0, pg, d, .str s0, rfl, pg5.ts (ext_ts eY), full, dpE eY dp, shd, .str _, shs, tY, fun X1 f1 t1 => ⟨true, rfl, iteF ?_⟩⟩
          have eY1 := eY.trans f1
          refine ⟨_, rfl, _, rfl, _, rfl, .ref pp, .str s0, x, pg, .str s0, d, rfl, pg5.ts (ext_ts eY1), full, .str _, shs, dpE eY1 dp, shd, t1, fun X2 f2 t2 => ⟨true, rfl, iteF ?_⟩⟩
          have eY2 := eY1.trans f2
          refine ⟨_, rfl, _, rfl, _, rfl, .ref pp, x, x, pg, d, d, rfl, pg5.ts (ext_ts eY2), full, dpE eY2 dp, shd, dpE eY2 dp, shd, t2, fun X3 f3 t3 => ⟨true, rfl, iteF ?_⟩⟩
          exact ⟨⟨_, _, _, _, _, rfl⟩, eY2.trans f3, t3⟩
        · rintro σ Y ⟨⟨y7, y8, y9, y10, y11, rfl⟩, eY, tY⟩
          refine ⟨.ref pp, rfl, pp, dPg pg, rfl, (pg5.ts (ext_ts eY)).dp, sp.ok, sp.nd, Nat.le_trans sp.dp (by decide), Nat.le_trans sp.ln (by decide), _, rfl, rfl, _, rfl, iteNS rfl ?_⟩
          exact ⟨⟨_, _, _, _, _, _, _, _, _, _, rfl⟩, (fd5.ext eY).more (by omega), tY⟩
    · rintro σ J ⟨⟨y2, y3, y4, y5, y6, y7, y8, y9, y10, y11, rfl⟩, _, tbJ⟩
      have sa := names_shaped _ abc.1
      have sb := names_shaped _ abc.2.1
      obtain ⟨ntD, back⟩ := back_more full_lone lone_more
      dsimp only
      refine seq_asg (page3 (K := K) (row := ["a", "c"]) (fun R r => r) (by decide) (fun v J1 s1 h1 => ?_))
      refine ⟨v, rfl, v, .str "a", .str "b", gLone ["a", "c"], .str "a", .str "b", rfl, h1, full_lone.neat, .str _, sa, .str _, sb, res_yes lone_more (fun v2 J2 s2 h2 => ?_)⟩
      dsimp only
      refine seq_asg (page3 (K := K) (row := ["a", "b", "c"]) (fun R r => r) (by decide) (fun v3 J3 s3 h3 => ?_))
      refine ⟨v2, rfl, v2, rfl, v2, .str "a", .str "b", gLone ["a", "b", "c"], .str "a", .str "b", rfl, h2.same s3, ntD, .str _, sa, .str _, sb, res_yes back (fun v4 J4 s4 h4 => ⟨(show 2 ≤ sizeLine by decide), fun L1 n1 => ?_⟩)⟩
      have z1 := same_new (o := .lst [v2, v4]) n1
      have sh := sh_two ntD.ok full_lone.neat.ok
      refine ⟨L1, .list [dPg (gLone ["a", "b", "c"]), dPg (gLone ["a", "c"])], rfl, .lst (.inl (.inl upd_same)) (.cons (((h2.same s3).same s4).same z1).dp (.cons (h4.same z1).dp .nil)), sh.ok, sh.nd, sh.dp, Nat.le_trans sh.ln size16, ?_⟩
      refine ⟨v3, rfl, v, rfl, (show 2 ≤ sizeLine by decide), fun L2 n2 => ?_⟩
      have z2 := z1.trans (same_new (o := .lst [v3, v]) n2)
      refine ⟨L2, .list [dPg (gLone ["a", "b", "c"]), dPg (gLone ["a", "c"])], rfl, .lst (.inl (.inl upd_same)) (.cons ((h3.same s4).same z2).dp (.cons (((h1.same s2).same s3).same (s4.trans z2)).dp .nil)), sh.ok, sh.nd, sh.dp, Nat.le_trans sh.ln size16, rfl, ?_⟩
      rw [decide_eq_true rfl]
      exact q _
end
end Kn


namespace Kn
open PySem PySem.Spec PyProof.Rows L2 LamX
/-! ### what the top has written -/
def At (K : PySem.W.Frag) (x : Str) (i : Nat) : Prop := ∃ (f : Addr) (oc : Value) (od an : Option Addr) (sl : Array (Option Value)) (kV dc pm cd ct : Value),
  PySem.W.nsIn K mainGlobals x = some (some (.ref f)) ∧ K.lookup f = some ⟨oc, od, .func (PySem.W.fnOf x x (defArgs (topS i)) (defBody (topS i)) (defScope (topS i)) .none kV dc pm an cd ct), sl⟩ ∧ PySem.W.codeIn K cd x = true ∧ PySem.W.keepIn K (.ref f) = true
theorem at_mk {K : PySem.W.Frag} {x : Str} {i : Nat} {f : Addr} {oc kV dc pm cd ct : Value} {od an : Option Addr} {sl : Array (Option Value)} (a : PySem.W.nsIn K mainGlobals x = some (some (.ref f)))
    (l : K.lookup f = some ⟨oc, od, .func (PySem.W.fnOf x x (defArgs (topS i)) (defBody (topS i)) (defScope (topS i)) .none kV dc pm an cd ct), sl⟩) (c : PySem.W.codeIn K cd x = true) (k : PySem.W.keepIn K (.ref f) = true) : At K x i :=
  ⟨f, oc, od, an, sl, kV, dc, pm, cd, ct, a, l, c, k⟩
/-- a def that makes lambdas: its code object and its table -/
structure AtC (K : PySem.W.Frag) (x : Str) (i : Nat) (c T0 : Addr) : Prop where
  ex : ∃ (f : Addr) (oc : Value) (od an : Option Addr) (sl : Array (Option Value)) (kV dc pm ct : Value),
    PySem.W.nsIn K mainGlobals x = some (some (.ref f)) ∧ K.lookup f = some ⟨oc, od, .func (PySem.W.fnOf x x (defArgs (topS i)) (defBody (topS i)) (defScope (topS i)) .none kV dc pm an (.ref c) ct), sl⟩ ∧ PySem.W.codeIn K (.ref c) x = true ∧ PySem.W.keepIn K (.ref f) = true
  tab : PySem.W.tabIn K x = some (c, T0)
theorem atC_mk {K : PySem.W.Frag} {x : Str} {i : Nat} {f c T0 : Addr} {oc kV dc pm ct oc2 : Value} {od an od2 : Option Addr} {sl sl2 : Array (Option Value)} {us : Array Value} (a : PySem.W.nsIn K mainGlobals x = some (some (.ref f)))
    (l : K.lookup f = some ⟨oc, od, .func (PySem.W.fnOf x x (defArgs (topS i)) (defBody (topS i)) (defScope (topS i)) .none kV dc pm an (.ref c) ct), sl⟩) (e : PySem.W.codeIn K (.ref c) x = true) (k : PySem.W.keepIn K (.ref f) = true)
    (l2 : K.lookup c = some ⟨oc2, od2, .fields us, sl2⟩) (v : us[11]? = some (.ref T0)) : AtC K x i c T0 := by
  refine ⟨⟨f, oc, od, an, sl, kV, dc, pm, ct, a, l, e, k⟩, ?_⟩
  unfold PySem.W.tabIn
  rw [a]
  dsimp only
  rw [l]
  dsimp only [PySem.W.fnOf]
  rw [l2]
  dsimp only
  rw [v]
/-- an error class, asked of from D -/
theorem asked_mk {K : PySem.W.Frag} {mg : Str → Option Value} {h : Heap} {x : Str} {C D : Addr} {b : Bool} (X : K.In h) (G : h.Ns mainGlobals mg) (a : PySem.W.nsIn K mainGlobals x = some (some (.ref C))) (c : PySem.W.isClsIn K C = true) (t : PySem.W.typeIn K (.ref C) = some (.type "type"))
    (s : PySem.W.subIn K (.ref D) (.ref C) = some b) (n : (Value.ref D == Value.ref C) = false ∨ b = true) : Asked K mg x D b := by
  refine ⟨C, PySem.W.mg_of X G a, ?_⟩
  unfold PySem.W.kitOne
  by_cases q : (Value.ref D == Value.ref C) = true
  · rw [if_pos q]
    rcases n with n | n
    · rw [n] at q
      cases q
    · rw [n]
  · rw [if_neg q]
    have c2 : (PySem.W.clsIn K C).isSome = true := c
    have e : ((PySem.W.clsIn K C).isSome && PySem.W.typeIn K (.ref C) == some (.type "type")) = true := by
      rw [c2, t]
      rfl
    show (if ((PySem.W.clsIn K C).isSome && PySem.W.typeIn K (.ref C) == some (.type "type")) = true then PySem.W.subIn K (.ref D) (.ref C) else none) = some b
    rw [if_pos e]
    exact s
theorem tab_out {K : PySem.W.Frag} {h : Heap} {T0 : Addr} (X : K.In h) (n : PySem.W.noTabs K = true) (t : h.get? T0 = some { cls := .none, data := .fields #[] }) : K.lookup T0 = none := by
  cases e : K.lookup T0 with
  | none => rfl
  | some o =>
    have y := X _ _ e
    rw [t] at y
    cases y
    have z := List.all_eq_true.mp n _ (PySem.W.mem_of_lookupK e)
    exact absurd (show false = true from z) Bool.false_ne_true
section
variable {K : PySem.W.Frag} {mg : Str → Option Value} {h : Heap} {x y : Str} {i : Nat} {ps : List Str}
theorem def_of (X : K.In h) (G : h.Ns mainGlobals mg) (t : At K x i)
    (b : ∀ (kV doc pm : Value) (an : Option Addr) (cdv ct : Value) (us : List Value), us.length = ps.length → bindArgs (PySem.W.fnOf x x (defArgs (topS i)) (defBody (topS i)) (defScope (topS i)) .none kV doc pm an cdv ct) ⟨us, []⟩ = pure (ps.zip us)) :
    ∃ f fd, Def K mg x i ps f fd := by
  obtain ⟨f, oc, od, an, sl, kV, dc, pm, cd, ct, a, l, c, k⟩ := t
  have F := fun_mk (st := topS i) l c k
  exact ⟨f, _, F, F.binds b, PySem.W.mg_of X G a⟩
theorem kw_of18 (X : K.In h) (G : h.Ns mainGlobals mg) (t : At K x i)
    (b : ∀ (kV doc pm : Value) (an : Option Addr) (cdv ct : Value) (us : List Value), us.length = (["web", "kind", "other"] : List Str).length → bindArgs (PySem.W.fnOf x x (defArgs (topS i)) (defBody (topS i)) (defScope (topS i)) .none kV doc pm an cdv ct) ⟨us, []⟩ = pure ((["web", "kind", "other"] : List Str).zip us))
    (b1 : ∀ (kV doc pm : Value) (an : Option Addr) (cdv ct u v z : Value), bindArgs (PySem.W.fnOf x x (defArgs (topS i)) (defBody (topS i)) (defScope (topS i)) .none kV doc pm an cdv ct) ⟨[], [(("other" : Str), u), (("kind" : Str), v), (("web" : Str), z)]⟩ = pure [(("web" : Str), z), (("kind" : Str), v), (("other" : Str), u)]) :
    ∃ f fd, Def K mg x i ["web", "kind", "other"] f fd ∧ ∀ (s : Shared) (u v z : Value), BindsTo s fd ⟨[], [(("other" : Str), u), (("kind" : Str), v), (("web" : Str), z)]⟩ [(("web" : Str), z), (("kind" : Str), v), (("other" : Str), u)] := by
  obtain ⟨f, oc, od, an, sl, kV, dc, pm, cd, ct, a, l, c, k⟩ := t
  have F := fun_mk (st := topS i) l c k
  exact ⟨f, _, ⟨F, F.binds b, PySem.W.mg_of X G a⟩, fun s u v z => .of_eq (b1 _ _ _ _ _ _ u v z)⟩
theorem kw_of19 (X : K.In h) (G : h.Ns mainGlobals mg) (t : At K x i)
    (b : ∀ (kV doc pm : Value) (an : Option Addr) (cdv ct : Value) (us : List Value), us.length = (["web", "kind", "other"] : List Str).length → bindArgs (PySem.W.fnOf x x (defArgs (topS i)) (defBody (topS i)) (defScope (topS i)) .none kV doc pm an cdv ct) ⟨us, []⟩ = pure ((["web", "kind", "other"] : List Str).zip us))
    (b1 : ∀ (kV doc pm : Value) (an : Option Addr) (cdv ct u v z : Value), bindArgs (PySem.W.fnOf x x (defArgs (topS i)) (defBody (topS i)) (defScope (topS i)) .none kV doc pm an cdv ct) ⟨[], [(("other" : Str), u), (("web" : Str), v), (("kind" : Str), z)]⟩ = pure [(("web" : Str), v), (("kind" : Str), z), (("other" : Str), u)]) :
    ∃ f fd, Def K mg x i ["web", "kind", "other"] f fd ∧ ∀ (s : Shared) (u v z : Value), BindsTo s fd ⟨[], [(("other" : Str), u), (("web" : Str), v), (("kind" : Str), z)]⟩ [(("web" : Str), v), (("kind" : Str), z), (("other" : Str), u)] := by
  obtain ⟨f, oc, od, an, sl, kV, dc, pm, cd, ct, a, l, c, k⟩ := t
  have F := fun_mk (st := topS i) l c k
  exact ⟨f, _, ⟨F, F.binds b, PySem.W.mg_of X G a⟩, fun s u v z => .of_eq (b1 _ _ _ _ _ _ u v z)⟩
end
section
variable {K : PySem.W.Frag} {mg mb : Str → Option Value} {h : Heap} {l : PySem.W.OpenLaw} {w : World} {fa c T0 D CL gI : Addr} {fdI : FuncData} {d : DefRec} {q : Program} {loose : List Str} {mean : ExcName → Option Value}
theorem all_mk (T : Top q loose mean mg mb h) (X : K.In h) (G : h.Ns mainGlobals mg) (hfa : mg "law" = some (.ref fa)) (find : (recsOf q).find? (fun e => e.name == ("_law_is_right" : Str)) = some d) (nt : PySem.W.noTabs K = true)
    (EM : ErrM K mg D gI fdI) (mL : mg "LetterError" = some (.ref CL)) (ex : PySem.W.exmOne K (.ref D) (.ref CL) = some true)
    (t12 : At K "ascending" 12) (t14 : At K "names_of" 14) (t15 : At K "form_of" 15) (t17 : At K "without_name" 17) (t18 : At K "with_arrow" 18) (t19 : At K "without_arrow" 19) (t20 : At K "with_row" 20) (t22 : At K "_law_start" 22) (t23 : At K "_law_draw" 23) (t24 : At K "_law_any" 24) (t25 : At K "_law_labels" 25) (t26 : At K "_law_page" 26) (t27 : At K "_law_refusal" 27) (t28 : At K "_law_said" 28) (t29 : At K "_law_use" 29) (t30 : At K "_law_odds" 30) (t31 : At K "_law_labels_of" 31) (t32 : At K "_law_is_known" 32) (t33 : At K "_law_entry" 33) (t34 : At K "_law_put" 34) (t35 : At K "_law_arrow_due" 35) (t36 : AtC K "_law_is_right" 36 c T0) (t37 : At K "law" 37) 
    (z1 : PySem.W.nsIn K mainGlobals "len" = some none) (z2 : PySem.W.nsIn K mainGlobals "int" = some none) (z3 : PySem.W.nsIn K mainGlobals "range" = some none) (z4 : PySem.W.nsIn K mainGlobals "sorted" = some none) (z5 : PySem.W.nsIn K mainGlobals "tuple" = some none) (z6 : PySem.W.nsIn K mainGlobals "isinstance" = some none) (z7 : PySem.W.nsIn K mainGlobals "repr" = some none) (z8 : PySem.W.nsIn K mainGlobals "ValueError" = some none) (z9 : PySem.W.nsIn K mainGlobals "set" = some none) (z10 : PySem.W.nsIn K mainGlobals "str" = some none) :
    ∃ (fd : FuncData) (cs : List (Addr × Addr)), (∀ (s : Shared) (u : Value), BindsTo s fd ⟨[u], []⟩ [("_law_script", u)]) ∧ (∀ t ∈ cs, h.get? t.2 = some { cls := .none, data := .fields #[] }) ∧ (∀ t ∈ cs, K.lookup t.2 = none) ∧ (∀ t ∈ cs, PySem.W.CodeHd h t.1 t.2) ∧
      ∀ base : Heap, K.In base → base.Ns mainGlobals mg → (∀ t ∈ cs, TabB base mg t.1 t.2) → Vow l.prog w K mg base 8 fa fd ["_law_script"] (spLaw K (cs.map fun t => (t.2, qRt))) := by
  obtain ⟨f12, d12, D12⟩ := def_of (mg := mg) (ps := ["things"]) X G t12 (fun _ _ _ _ _ _ us hl => match us, hl with | [_], _ => rfl)
  obtain ⟨f14, d14, D14⟩ := def_of (mg := mg) (ps := ["web"]) X G t14 (fun _ _ _ _ _ _ us hl => match us, hl with | [_], _ => rfl)
  obtain ⟨f15, d15, D15⟩ := def_of (mg := mg) (ps := ["web", "kind"]) X G t15 (fun _ _ _ _ _ _ us hl => match us, hl with | [_, _], _ => rfl)
  obtain ⟨f17, d17, D17⟩ := def_of (mg := mg) (ps := ["row", "other"]) X G t17 (fun _ _ _ _ _ _ us hl => match us, hl with | [_, _], _ => rfl)
  obtain ⟨f18, d18, D18, k18⟩ := kw_of18 (mg := mg) X G t18 (fun _ _ _ _ _ _ us hl => match us, hl with | [_, _, _], _ => rfl) (fun _ _ _ _ _ _ _ _ _ => rfl)
  obtain ⟨f19, d19, D19, k19⟩ := kw_of19 (mg := mg) X G t19 (fun _ _ _ _ _ _ us hl => match us, hl with | [_, _, _], _ => rfl) (fun _ _ _ _ _ _ _ _ _ => rfl)
  obtain ⟨f20, d20, D20⟩ := def_of (mg := mg) (ps := ["web", "row"]) X G t20 (fun _ _ _ _ _ _ us hl => match us, hl with | [_, _], _ => rfl)
  obtain ⟨f22, d22, D22⟩ := def_of (mg := mg) (ps := ["_law_script"]) X G t22 (fun _ _ _ _ _ _ us hl => match us, hl with | [_], _ => rfl)
  obtain ⟨f23, d23, D23⟩ := def_of (mg := mg) (ps := ["_law_feed", "_law_many"]) X G t23 (fun _ _ _ _ _ _ us hl => match us, hl with | [_, _], _ => rfl)
  obtain ⟨f24, d24, D24⟩ := def_of (mg := mg) (ps := ["_law_feed", "_law_some"]) X G t24 (fun _ _ _ _ _ _ us hl => match us, hl with | [_, _], _ => rfl)
  obtain ⟨f25, d25, D25⟩ := def_of (mg := mg) (ps := ["_law_feed", "_law_many"]) X G t25 (fun _ _ _ _ _ _ us hl => match us, hl with | [_, _], _ => rfl)
  obtain ⟨f26, d26, D26⟩ := def_of (mg := mg) (ps := ["_law_feed", "_law_most"]) X G t26 (fun _ _ _ _ _ _ us hl => match us, hl with | [_, _], _ => rfl)
  obtain ⟨f27, d27, D27⟩ := def_of (mg := mg) (ps := ["_law_error"]) X G t27 (fun _ _ _ _ _ _ us hl => match us, hl with | [_], _ => rfl)
  obtain ⟨f28, d28, D28⟩ := def_of (mg := mg) (ps := ["_law_ask"]) X G t28 (fun _ _ _ _ _ _ us hl => match us, hl with | [_], _ => rfl)
  obtain ⟨f29, d29, D29⟩ := def_of (mg := mg) (ps := ["_law_word"]) X G t29 (fun _ _ _ _ _ _ us hl => match us, hl with | [_], _ => rfl)
  obtain ⟨f30, d30, D30⟩ := def_of (mg := mg) (ps := []) X G t30 (fun _ _ _ _ _ _ us hl => match us, hl with | [], _ => rfl)
  obtain ⟨f31, d31, D31⟩ := def_of (mg := mg) (ps := ["_law_page_here"]) X G t31 (fun _ _ _ _ _ _ us hl => match us, hl with | [_], _ => rfl)
  obtain ⟨f32, d32, D32⟩ := def_of (mg := mg) (ps := ["_law_page_here", "_law_item"]) X G t32 (fun _ _ _ _ _ _ us hl => match us, hl with | [_, _], _ => rfl)
  obtain ⟨f33, d33, D33⟩ := def_of (mg := mg) (ps := ["_law_page_here", "_law_sign"]) X G t33 (fun _ _ _ _ _ _ us hl => match us, hl with | [_, _], _ => rfl)
  obtain ⟨f34, d34, D34⟩ := def_of (mg := mg) (ps := ["_law_page_here", "_law_entry_here"]) X G t34 (fun _ _ _ _ _ _ us hl => match us, hl with | [_, _], _ => rfl)
  obtain ⟨f35, d35, D35⟩ := def_of (mg := mg) (ps := ["_law_page_here", "_law_sign", "_law_mate", "_law_is_more"]) X G t35 (fun _ _ _ _ _ _ us hl => match us, hl with | [_, _, _, _], _ => rfl)
  have ml := PySem.W.mg_none_of X G z1
  have mi := PySem.W.mg_none_of X G z2
  have mr := PySem.W.mg_none_of X G z3
  have mo := PySem.W.mg_none_of X G z4
  have mt := PySem.W.mg_none_of X G z5
  have ms := PySem.W.mg_none_of X G z6
  have mp := PySem.W.mg_none_of X G z7
  have mv := PySem.W.mg_none_of X G z8
  have me := PySem.W.mg_none_of X G z9
  have mz := PySem.W.mg_none_of X G z10
  obtain ⟨code, tab⟩ := PySem.W.tab_of T X find t36.tab
  obtain ⟨fV, oc9, od9, an9, sl9, kV9, dc9, pm9, ct9, a9, l9, e9, kk9⟩ := t36.ex
  have FV : FunC K "_law_is_right" (topS 36) fV (PySem.W.fnOf "_law_is_right" "_law_is_right" (defArgs (topS 36)) (defBody (topS 36)) (defScope (topS 36)) .none kV9 dc9 pm9 an9 (.ref c) ct9) c := ⟨⟨oc9, od9, kV9, dc9, pm9, an9, ct9, sl9, rfl, l9, e9⟩, kk9⟩
  have BV : Binds K (PySem.W.fnOf "_law_is_right" "_law_is_right" (defArgs (topS 36)) (defBody (topS 36)) (defScope (topS 36)) .none kV9 dc9 pm9 an9 (.ref c) ct9) ["_law_page_here", "_law_sign", "_law_mate"] [] :=
    (fun_mk (st := topS 36) l9 e9 kk9).binds (fun _ _ _ _ _ _ us hl => match us, hl with | [_, _, _], _ => rfl)
  have mV := PySem.W.mg_of X G a9
  obtain ⟨fL, oc, od, an, sl, kV, dc, pm, cd, ct, aL, lL, cL, kL⟩ := t37
  cases hfa.symm.trans (PySem.W.mg_of X G aL)
  have FL := fun_mk (st := topS 37) lL cL kL
  refine ⟨PySem.W.fnOf "law" "law" (defArgs (topS 37)) (defBody (topS 37)) (defScope (topS 37)) .none kV dc pm an cd ct, [(c, T0)], fun s v => .of_eq rfl, ?_, ?_, ?_, fun base _ _ TB => ?_⟩
  · intro t ht
    rw [List.mem_singleton.mp ht]
    exact tab
  · intro t ht
    rw [List.mem_singleton.mp ht]
    exact tab_out X nt tab
  · intro t ht
    rw [List.mem_singleton.mp ht]
    exact code
  · have TB0 : TabB base mg c T0 := TB (c, T0) (List.mem_singleton.mpr rfl)
    have O12 : FnOk l.prog w K mg base CX0 1 f12 d12 ["things"] (spAsc K) := ok_asc D12.F mt mo me
    have O14 : FnOk l.prog w K mg base CX0 1 f14 d14 ["web"] (spNames K) := ok_names D14.F mt
    have O15 : FnOk l.prog w K mg base (L2.CX l.prog w) 3 f15 d15 ["web", "kind"] (spBy K D rItem) := ok_form D15.F EM
    have O17 : FnOk l.prog w K mg base CX0 1 f17 d17 ["row", "other"] (spLess K) := ok_less D17.F mt
    have O20 : FnOk l.prog w K mg base CX0 1 f20 d20 ["web", "row"] (spPut K) := ok_put D20.F mt
    have O18 : FnOk l.prog w K mg base (L2.CX l.prog w) 4 f18 d18 ["web", "kind", "other"] (sp3 K D outMore) := ok_more D18.F EM D15 O15 D14 O14 D12 O12 D20 O20
    have O19 : FnOk l.prog w K mg base (L2.CX l.prog w) 4 f19 d19 ["web", "kind", "other"] (sp3 K D outLess) := ok_without D19.F EM D15 O15 D17 O17 D20 O20
    have O22 : FnOk l.prog w K mg base CX0 1 f22 d22 ["_law_script"] (spStart K) := ok_start D22.F
    have O24 : FnOk l.prog w K mg base CX0 2 f24 d24 ["_law_feed", "_law_some"] (spAny K) := ok_any D24.F D23.F D23.b D23.m mi ml
    have O26 : FnOk l.prog w K mg base CX0 4 f26 d26 ["_law_feed", "_law_most"] (spPg K) := ok_pg D26.F D25.F D25.b D25.m D24.F D24.b D24.m D23.F D23.b D23.m mi ml mr mo mt
    have O27 : Handed l.prog w K mg base 1 f27 d27 ["_law_error"] (spRef K D) := ok_ref D27.F EM.n ms mv
    have O29 : FnOk l.prog w K mg base CX0 1 f29 d29 ["_law_word"] spUse := ok_use D29.F
    have O30 : FnOk l.prog w K mg base CX0 1 f30 d30 [] (spOdds K) := ok_odds D30.F
    have O31 : FnOk l.prog w K mg base CX0 1 f31 d31 ["_law_page_here"] (spLabOf K) := ok_labOf D31.F
    have O32 : FnOk l.prog w K mg base CX0 2 f32 d32 ["_law_page_here", "_law_item"] (spKnown K) := ok_known D32.F D31 O31 ms mz
    have O33 : FnOk l.prog w K mg base CX0 1 f33 d33 ["_law_page_here", "_law_sign"] (spEntry K) := ok_entry D33.F
    have O34 : FnOk l.prog w K mg base CX0 1 f34 d34 ["_law_page_here", "_law_entry_here"] (spPutT K) := ok_putT D34.F mt
    have O35 : FnOk l.prog w K mg base CX0 3 f35 d35 ["_law_page_here", "_law_sign", "_law_mate", "_law_is_more"] (spDue K) := ok_due D35.F D32 O32 D29 O29 D33 O33 D34 O34 mt mo
    have OV : Vow l.prog w K mg base 7 fV _ ["_law_page_here", "_law_sign", "_law_mate"] (spRt K (TT1 T0)) := ok_rt FV TB0 EM mL ex D27 O27 D28 D18 O18 D19 O19 D35 O35 mp
    exact ok_law FL D22 O22 D26 O26 D24 O24 D31 O31 D30 O30 D18 O18 k18 D19 O19 k19 kk9 BV mV OV mr mp
end
end Kn


namespace Kn
open PySem PySem.Spec PyProof.Rows L2 LamX
section
variable {K : PySem.W.Frag} {mg : Str → Option Value} {h : Heap}
theorem cls_mk {D N : Addr} {nm q : Str} {bs bm sub : List Value} {sn : List Str} {ab : Bool} {col : Option Bool} {dd : Option Addr} {k0 k1 k2 k3 k5 : Option Value} (l : K.lookup D = some (excClassObj nm q D N bs bm true sn sub ab col dd k0 k1 k2 k3 k5 "ValueError.__new__")) (r : PySem.HandSPX.refsVE bm = true) :
    ∃ nm q N bs bm sn sub ab col dd k0 k1 k2 k3 k5, K.lookup D = some (excClassObj nm q D N bs bm true sn sub ab col dd k0 k1 k2 k3 k5 "ValueError.__new__") ∧ PySem.HandSPX.refsVE bm = true := ⟨_, _, _, _, _, _, _, _, _, _, _, _, _, _, _, l, r⟩
theorem err_mk {D fI : Addr} {oc kV doc pm cdv ct : Value} {od an : Option Addr} {osl : Array (Option Value)} (X : K.In h) (G : h.Ns mainGlobals mg) (aD : PySem.W.nsIn K mainGlobals "NotUsable" = some (some (.ref D)))
    (cl : ∃ nm q N bs bm sn sub ab col dd k0 k1 k2 k3 k5, K.lookup D = some (excClassObj nm q D N bs bm true sn sub ab col dd k0 k1 k2 k3 k5 "ValueError.__new__") ∧ PySem.HandSPX.refsVE bm = true)
    (sa : PySem.W.findIn K (.ref D) "__setattr__" = some (some (.builtin "object.__setattr__"))) (ga : PySem.W.findIn K (.ref D) "__getattribute__" = some (some (.builtin "BaseException.__getattribute__"))) (gg : PySem.W.findIn K (.ref D) "__getattr__" = some none)
    (ha : PySem.W.findIn K (.ref D) "__class__" = some (some (.builtin "object.__class__"))) (hn : PySem.W.specialIn K (.builtin "object.__class__") "__get__" = some (some (.builtin "getset_descriptor.__get__"))) (ht : PySem.W.takesIn K (.builtin "object.__class__") = some true) (hm : PySem.W.mroIn K D (.type "object") = some true)
    (noW : PySem.W.findIn K (.ref D) "word" = some none) (noA : PySem.W.findIn K (.ref D) "at" = some none) (i : PySem.W.findIn K (.ref D) "__init__" = some (some (.ref fI))) (tI : PySem.W.typeIn K (.ref fI) = some (.type "function"))
    (lI : K.lookup fI = some ⟨oc, od, .func (PySem.W.fnOf "__init__" "NotUsable.__init__" (defArgs initS) (defBody initS) (defScope initS) .none kV doc pm an cdv ct), osl⟩) (cI : PySem.W.codeIn K cdv "NotUsable.__init__" = true) (kI : PySem.W.keepIn K (.ref fI) = true)
    (kC : PySem.W.keepIn K (.ref D) = true) (exC : PySem.W.subIn K (.ref D) (.type "BaseException") = some true) (tyC : PySem.W.typeIn K (.ref D) = some (.type "type")) (hdC : PySem.W.hasDictIn K D = true) (isC : PySem.W.isClsIn K D = true) (sV : PySem.W.subIn K (.ref D) (.type "ValueError") = some true) (sD : PySem.W.subIn K (.ref D) (.ref D) = some true)
    (p1 : Asked K mg "PaperError" D false) (p2 : Asked K mg "WebError" D true) (p3 : Asked K mg "LiveError" D false) (p4 : Asked K mg "TextError" D false) (p6 : Asked K mg "Missed" D false) :
    ErrM K mg D fI (PySem.W.fnOf "__init__" "NotUsable.__init__" (defArgs initS) (defBody initS) (defScope initS) .none kV doc pm an cdv ct) := by
  have FI : Fun K "__init__" "NotUsable.__init__" initS fI (PySem.W.fnOf "__init__" "NotUsable.__init__" (defArgs initS) (defBody initS) (defScope initS) .none kV doc pm an cdv ct) := fun_mk (st := initS) lI cI kI
  refine ⟨⟨⟨isC, ga, gg, exC, ha, hn, ht, hm⟩, ⟨ga, gg, exC, hdC⟩, noW, noA, p1, p2, p3, p4, asked_mk X G aD isC tyC sD (.inr rfl), p6, ?_⟩, ⟨cl, sa, exC, tyC, kC⟩, FI, FI.binds (fun _ _ _ _ _ _ us hl => match us, hl with | [_, _, _], _ => rfl), i, tI, PySem.W.mg_of X G aD⟩
  show (if (Value.ref D == Value.type "ValueError") = true then some true else if PySem.W.kitMeta "ValueError" = true then PySem.W.subIn K (.ref D) (.type "ValueError") else none) = some true
  rw [if_neg (show ¬ (Value.ref D == Value.type "ValueError") = true from fun z => by cases beq_iff_eq.mp z), if_pos (by decide +kernel)]
  exact sV
end
end Kn
open PySem PySem.W PyProof.Rows
set_option maxHeartbeats 0 in
theorem PySem.Challenge.cw_firstletter_k06_whole_arrows_changed_holds : PySem.Challenge.rw_firstletter_k06_whole_arrows_changed.Holds := by
  w_on; o_law; k_head; (case hw => w_witness2)
  k_fill
  refine Kn.walk_vowT (l := PySem.Challenge.rw_firstletter_k06_whole_arrows_changed) (k := 8) (x := "_law_script") (sp := fun cs K => Kn.spLaw K (cs.map fun t => (t.2, Kn.qRt))) rfl rfl ⟨rfl, by decide, by decide⟩ (fun w h Y => PySem.W.km_in_of Y) ?F (fun cs _ _ a ns hl ht hS => ⟨a, ns, rfl, hS, hl, (fun p hp => ?_), fun _ => rfl⟩)
  case hc =>
    obtain ⟨t, h1, rfl⟩ := List.mem_map.mp hp
    exact LamX.TabS.nil (ht t h1)
  case F =>
    intro w loose' mean mg mb fa h T KX G hmg
    refine' Kn.all_mk T KX G hmg ?find ?nt ?EM ?mL ?ex ?t12 ?t14 ?t15 ?t17 ?t18 ?t19 ?t20 ?t22 ?t23 ?t24 ?t25 ?t26 ?t27 ?t28 ?t29 ?t30 ?t31 ?t32 ?t33 ?t34 ?t35 ?t36 ?t37 ?z1 ?z2 ?z3 ?z4 ?z5 ?z6 ?z7 ?z8 ?z9 ?z10
    (case z1 => k_is); (case z2 => k_is); (case z3 => k_is); (case z4 => k_is); (case z5 => k_is); (case z6 => k_is); (case z7 => k_is); (case z8 => k_is); (case z9 => k_is); (case z10 => k_is)
    (case find => rfl); (case nt => kernel_rfl)
    case EM =>
      refine' Kn.err_mk KX G ?aD ?cl ?sa ?ga ?gg ?ha ?hn ?ht ?hm ?noW ?noA ?i ?tI ?lI ?cI ?kI ?kC ?exC ?tyC ?hdC ?isC ?sV ?sD ?p1 ?p2 ?p3 ?p4 ?p6
      (case aD => k_is)
      (case cl => (refine' Kn.cls_mk ?x ?y; (case x => k_is); (case y => decide +kernel)))
      (case sa => k_is); (case ga => k_is); (case gg => k_is); (case ha => k_is); (case hn => k_is); (case ht => k_is); (case hm => k_is); (case noW => k_is); (case noA => k_is); (case i => k_is); (case tI => k_is); (case lI => k_is); (case cI => k_is); (case kI => k_is)
      (case kC => k_is); (case exC => k_is); (case tyC => k_is); (case hdC => k_is); (case isC => k_is); (case sV => k_is); (case sD => k_is)
      (case p2 => (refine' Kn.asked_mk KX G ?a ?c ?t ?s (.inr rfl); (case a => k_is); (case c => k_is); (case t => k_is); (case s => k_is)))
      all_goals
        refine' Kn.asked_mk KX G ?a ?c ?t ?s (.inl ?n)
        (case a => k_is); (case c => k_is); (case t => k_is); (case s => k_is); (case n => decide +kernel)
    case mL => (refine' PySem.W.mg_of KX G ?a; (case a => k_is))
    case ex => (refine' PySem.W.exm_ref ?a ?b ?c ?d; (case a => k_is); (case b => k_is); (case c => k_is); (case d => k_is))
    case t36 =>
      refine' Kn.atC_mk ?a ?l ?e ?k ?l2 ?v
      (case a => k_is); (case l => k_is); (case e => k_is); (case k => k_is); (case l2 => k_is); (case v => rfl)
    all_goals
      refine' Kn.at_mk ?a ?l ?c ?k
      (case a => k_is); (case l => k_is); (case c => k_is); (case k => k_is)
