import PyProof.Rows.All
import Wide.All
import OpenK.AllK
import Wide.FinOn
import HandS.ForMost
import HandS.Star
import HandS.FStr
import HandS.RaiseMore
import PyProof.ReprRoads
import PyProof.StrLawsRepr
import HandS.TupAny
import HandS.HotCalls
import HandS.ExcIs
import HandS.ExcField
import HandS.ExcInit
import HandS.Lambda
import HandS.WordsExc
import KE.KExcIs
import PyProof.Rows.CountFlat
import HandS.SetFor
import PyProof.ReprLen
import HandS.IsInst
import KE.KRevSl
import HandS.Strs
import HandS.TupMul
import HandS.List
import HandS.Comp
import HandS.Zip
import HandS.Style
import HandS.EndTab
import KE.KNest
import PySem.Challenge.RW_firstletter_k04_whole_stores_listed
set_option Elab.async false
set_option linter.all false
set_option maxRecDepth 100000
set_option maxHeartbeats 8000000
/-! Kn: defs that show data by repr. A promise that holds where nothing is being shown yet (Vow), its body, its call, the law's end. -/
namespace Kn
open PySem PySem.Spec PyProof.Rows L2

section
variable (P : Program) (w : World) (K : PySem.W.Frag) (mg : Str → Option Value) (base : Heap)
structure Vow (k : Nat) (f : Addr) (fd : FuncData) (ps : List Str) (sp : Sp) : Prop where
  many : ∀ vs H Q E, sp vs H Q E → vs.length = ps.length
  goes : ∀ (A : Around) (fr : List Env) (s : Shared) (H : Hp) (g : Args) (us : List Value) (vs : List V) (Q : VK) (E : XK), A.guards = some [] → Room k A →
    Env0 P w K mg base A fr s H → BindsTo s fd g (ps.zip us) → Vals vs us → sp vs H Q E → codeAny (model P w) A (.call (.ref f) g) (CR CX0 fr P w H s Q E) s
end
section
variable {P : Program} {w : World} {K : PySem.W.Frag} {mg : Str → Option Value} {base : Heap} {k : Nat} {f : Addr} {fd : FuncData} {ps N : List Str} {sp : Sp} {x qual : Str} {st : Stmt}

theorem Vow.body (F : Fun K x qual st f fd) (S : FnScope N ps (defScope st)) (many : ∀ vs H Q E, sp vs H Q E → vs.length = ps.length)
    (hb : ∀ (cdv : Value) (A : Around) (fr : List Env) (s : Shared) (H : Hp) (vs : List V) (Q : VK) (E : XK), A.guards = some [] → Room k (A.deeper (envOfC qual (defScope st) s.heap.objs.size f cdv)) → sp vs H Q E →
      ∃ t, PSs (cxOf CX0 P w K mg base N qual (defScope st) f cdv A fr s H E).nox (defBody st) t ∧ t { nx := fun _ H' => Q .non H', rt := Q } (start N vs) H) :
    Vow P w K mg base (k + 1) f fd ps sp := by
  obtain ⟨oc, od, kV, doc, pm, an, cdv, ct, osl, rfl, look, cdOk⟩ := F.ex
  refine ⟨many, fun A fr s H g us vs Q E hg room z bound rv told => ?_⟩
  have held : ∀ b o, base.get? b = some o → s.heap.get? b = some o := fun b o y => (z.bs b o y).1
  have KS : K.In s.heap := z.mod.kin.keeps held
  have parL : ∀ y ∈ ps.zip us, (defScope st).names.lookup y.1 = some .local ∨ ((defScope st).names.lookup y.1 = some .cell ∧ ((cellsFrom (s.heap.objs.size + 1) (defScope st).names []).lookup y.1).isSome = true) := by
    rintro ⟨n, v⟩ hy
    cases S.par n (List.of_mem_zip hy).1 with
    | inl q => exact .inl q
    | inr q => exact .inr ⟨q, PySem.W.cellsFrom_some _ _ _ (.inl q)⟩
  refine codeAny_call_function room.depth (KS _ _ look) rfl S.co S.gen rfl (PySem.W.codeRec_of KS cdOk) (bound _ _ _ _ ?_)
  refine wpAny_newFunctionEnv_cells S.kind parL ?_
  rintro env rfl s1 y
  refine ⟨(z.mod.nolimit.keeps held).keeps y.toInCall.keep, codeAny_func ?_⟩
  obtain ⟨t, ht, ends⟩ := hb cdv A fr s H vs Q E hg (room.deeper _) told
  have I := inv_start (CX := CX0) (P := P) (mg := mg) (E := E) S room.hd z (many _ _ _ _ told) rv y
  refine wpAny_mono (ht.nox.run [] s1 (start N vs) H _ I ends) ?_ (fun _ _ q => q)
  intro fl s2 hs
  cases fl with
  | ret u => obtain ⟨v, σ2, H2, J, r2, q⟩ := hs; exact ⟨v, H2, J.os, J.bare, J.base, J.hok, r2, q⟩
  | next => obtain ⟨σ2, H2, J, q⟩ := hs; exact ⟨V.non, H2, J.os, J.bare, J.base, J.hok, rfl, q⟩
  | brk => obtain ⟨_, _, _, q⟩ := hs; exact q.elim
  | cont => obtain ⟨_, _, _, q⟩ := hs; exact q.elim

theorem Vow.of (F : FnOk P w K mg base CX0 k f fd ps sp) : Vow P w K mg base k f fd ps sp :=
  ⟨F.len, fun A fr s H g us vs Q E _ room z bound rv told => F.run A fr s H g us vs Q E room z bound rv told⟩
end

section
variable {X : Cx} {k : Nat} {f : Addr} {fd : FuncData} {ps : List Str} {sp : Sp} {x : Str} {p pos : Pos} {e : Expr} {es : List Expr} {t : TA}
/-- f(e, ..) of a def that vows -/
theorem pe_vow (F : Vow X.prog X.w X.K X.mg X.base k f fd ps sp) (hq : X.A.guards = some []) (hr : Room k X.A) (hg : Gl X x) (hm : X.mg x = some (.ref f)) (hk : PySem.W.keepIn X.K (.ref f) = true) (hb : Binds X.K fd ps [])
    (ha : PA X (e :: es) t) (hdb : (x == ("__debug__" : Str)) = false := by decide) (he : starEach (e :: es) X.env = (false, eval e X.env) :: starEach es X.env := by rfl) (hpl : (backTo pos (starEach es X.env)).any (·.1) = false := by rfl) :
    PE X (.Call (.Name x p) (e :: es) [] pos) (tCall sp [] E0 t) := by
  refine ⟨fun pins s σ H Q I told => wpAny_Call_Name_kw (ld_glob I hg hm ?_ hdb)⟩
  refine PySem.W.callWith_K (h₀ := X.base) I.ok.mod.kin hk (thn (ha.run pos pins s σ H _ I told) ?_) he hpl
  rintro us s1 ⟨vs, H1, I1, rv, q⟩
  refine ⟨I1.kIn, ?_⟩
  have q : sp (vs ++ []) H1 Q E0 := q
  rw [List.append_nil] at q
  have hl : (us ++ []).length = ps.length := by rw [List.append_nil, ← rv.length]; exact F.many _ _ _ _ q
  have hb1 := hb s1 us I1.kIn hl
  rw [List.append_nil] at hb1
  refine wpAny_call (codeAny_mono (F.goes X.A X.stack s1 H1 ⟨us, []⟩ us vs Q E0 hq hr I1.env0 hb1 rv q) ?_)
  intro r s2 out
  cases r with
  | error _ => exact False.elim out
  | ok fl =>
    cases fl with
    | ret u => exact I1.after out
    | next => exact False.elim out
    | brk => exact False.elim out
    | cont => exact False.elim out

/-- repr(x) of data -/
def rShow (K : PySem.W.Frag) : List V → Hp → VK → Prop := fun xs H Q => ∃ (a : Addr) (d : PyData), xs = [.ref a] ∧ Dp K H (.ref a) d ∧ d.showable = true ∧ d.hasDict = false ∧ d.depth ≤ 20 ∧ d.shown.length ≤ sizeLine ∧ Q (.str d.shown) H
theorem call_show (hq : X.A.guards = some []) (hu : X.A.units + 64 < cLine) : CallR X (.builtin "repr") (rShow X.K) := by
  rintro pins s σ H xs us Q I rv ⟨a, d, rfl, hd, h1, h2, h3, h4, q⟩
  obtain ⟨u, rfl, rfl⟩ := vals1 rv
  obtain ⟨as, rd⟩ := Dp.reads I d _ _ hd rfl
  exact repr_of_reads' rd h1 (PyData.noDict_hsm h2) hq (by omega) (fun _ _ y => y) (fun h' u tk kp => ⟨.str d.shown, H, I.kept kp, ⟨_, rfl⟩, q⟩) h4
end

/-! the law's end -/
section
variable {P : Program} {w : World} {K : PySem.W.Frag} {mg mb : Str → Option Value} {k : Nat} {fa a : Addr} {fd : FuncData} {x : Str} {sp : Sp} {s : Shared} {vs : List Value} {ns : List Int}
theorem end_vow (kin : K.In s.heap) (nsm : s.heap.Ns mainGlobals mg) (nsb : s.heap.Ns builtinsNs mb) (boot : ∀ y : Str, y ≠ "__name__" → mb y = bootBuiltins y) (lim : s.heap.NoLimit) (gens : s.gens = #[])
    (at_ : s.heap.get? a = some { cls := .type "list", data := .seq vs.toArray }) (iv : IntsAre vs ns) (short : ns.length ≤ sizeLine) (room : Room k callerA)
    (F : ∀ base : Heap, K.In base → base.Ns mainGlobals mg → Vow P w K mg base k fa fd [x] sp) (bound : ∀ (z : Shared) (u : Value), BindsTo z fd ⟨[u], []⟩ [(x, u)])
    (told : ∀ H : Hp, Only H → SqL K H a (ns.map V.int) → sp [.ref a] H (fun v _ => v = .bl true) E0) :
    codeAny (model P w) callerA (.call (.ref fa) ⟨[.ref a], []⟩) (fun r s' => r = .ok (.ret (.bool true)) ∧ OldK s.heap s'.heap ∧ s'.os = s.os ∧ AllBare s'.gens) s := by
  have many : ns.length = vs.length := by rw [iv.length]
  have main : ∀ H : Hp, Only H → SqL K H a (ns.map V.int) → HOk P w H s.heap → (∀ b u, H b = some u → b = a ∧ K.lookup a = none) →
      codeAny (model P w) callerA (.call (.ref fa) ⟨[.ref a], []⟩) (fun r s' => r = .ok (.ret (.bool true)) ∧ OldK s.heap s'.heap ∧ s'.os = s.os ∧ AllBare s'.gens) s := by
    intro H only lst ok alone
    have free : ∀ b o, s.heap.get? b = some o → o ≠ { cls := .type "list", data := .seq vs.toArray } → H b = none := by
      intro b o y ne
      cases q : H b with
      | none => rfl
      | some u =>
        obtain ⟨rfl, _⟩ := alone b u q
        rw [at_] at y
        exact absurd (Option.some.inj y).symm ne
    have nsk : ∀ {b : Addr} {m : Str → Option Value}, s.heap.Ns b m → (hidT s.heap H).Ns b m := by
      rintro b m ⟨o, es, ep, y, dd, r⟩
      refine ⟨o, es, ep, hidT_get y (free b o y ?_), dd, r⟩
      rintro rfl
      have dd2 : Data.seq vs.toArray _ = Data.dict es ep := dd
      cases dd2
    have kinB : K.In (hidT s.heap H) := by
      intro b o y
      refine hidT_get (kin b o y) ?_
      cases q : H b with
      | none => rfl
      | some u =>
        obtain ⟨rfl, no⟩ := alone b u q
        rw [no] at y
        cases y
    obtain ⟨mc, c1, c2⟩ := lim
    have md : Mod K mg (hidT s.heap H) := ⟨kinB, nsk nsm, ⟨mb, nsk nsb, boot⟩, mc, nsk c1, c2⟩
    have noL : ∀ {b : Addr}, b ∉ ([] : List Addr) := fun h => by cases h
    have z : Env0 P w K mg (hidT s.heap H) callerA [] s H := ⟨rfl, md, fun b o y => of_hidT y, Nat.le_of_eq (hidT_size _ _), trivial, fun b h => absurd h noL, ok, .of_eq gens⟩
    have run := (F _ kinB (nsk nsm)).goes callerA [] s H ⟨[.ref a], []⟩ [.ref a] [.ref a] _ _ rfl room z (bound s (.ref a)) (.cons rfl .nil) (told H only lst)
    refine codeAny_mono run ?_
    intro r s2 out
    cases r with
    | error _ => exact False.elim out
    | ok fl =>
      cases fl with
      | next => exact False.elim out
      | brk => exact False.elim out
      | cont => exact False.elim out
      | ret u =>
        obtain ⟨v, H2, os, bare, un, ok2, r2, rfl⟩ := out
        obtain rfl : u = Value.bool true := r2
        refine ⟨rfl, OldK.of_keep (fun b o y => ?_), os, bare⟩
        cases q : H b with
        | none => exact un.keep b o y q noL noL
        | some u =>
          rcases only b with n | ⟨ob, xs, n⟩
          · rw [q] at n
            cases n
          · obtain ⟨y1, _⟩ := ok b _ n
            obtain ⟨y2, _⟩ := ok2 b _ (un.frzs b ob _ n)
            rw [y] at y1
            cases y1
            exact y2
  have rv : Vals (ns.map V.int) vs := vals_ints iv
  cases hk : K.lookup a with
  | some o =>
    have y := kin a o hk
    rw [at_] at y
    cases y
    refine main (fun _ => none) (fun _ => .inl rfl) (.inr ⟨_, vs.toArray, _, hk, rfl, rfl, rfl, by rw [List.size_toArray, ← many]; exact short, by simpa using rv⟩) (fun b u q => ?_) (fun b u q => ?_)
    · have q : (none : Option HO) = some u := q
      cases q
    · have q : (none : Option HO) = some u := q
      cases q
  | none =>
    refine main (fun b => if b = a then some (.frz { cls := .type "list", data := .seq vs.toArray } (.lst (ns.map V.int))) else none) (fun b => ?_) (.inl (.inr ⟨{ cls := .type "list", data := .seq vs.toArray }, if_pos rfl⟩)) (fun b u q => ?_) (fun b u q => ?_)
    · by_cases hb : b = a
      · exact .inr ⟨_, _, if_pos hb⟩
      · exact .inl (if_neg hb)
    · by_cases hb : b = a
      · subst hb
        cases (if_pos rfl).symm.trans q
        exact ⟨at_, by rw [List.length_map]; exact short, vs, _, rv, at_⟩
      · cases (if_neg hb).symm.trans q
    · by_cases hb : b = a
      · exact ⟨hb, hk⟩
      · cases (if_neg hb).symm.trans q

theorem walk_vow {l : PySem.W.OpenLaw} {q : Program} {loose : List Str} {XP : (Str → Option Value) → Heap → Prop} {YP : World → Heap → Prop} {d : DefRec} {K : Params → PySem.W.Frag} {sp : PySem.W.Frag → Sp}
    (most : l.most = some 63) (dflt : d.params.defaults = []) (room : Room k callerA) (hY : ∀ (w : World) (h : Heap), YP w h → (K w.params).In h)
    (F : ∀ (w : World) (mg : Str → Option Value) (fa : Addr) (h : Heap), (K w.params).In h → h.Ns mainGlobals mg → mg d.name = some (.ref fa) →
      ∃ fd : FuncData, (∀ (z : Shared) (u : Value), BindsTo z fd ⟨[u], []⟩ [(x, u)]) ∧ ∀ base : Heap, (K w.params).In base → base.Ns mainGlobals mg → Vow l.prog w (K w.params) mg base k fa fd [x] (sp (K w.params)))
    (told : ∀ (K : PySem.W.Frag) (H : Hp) (a : Addr) (ns : List Int), ns.length ≤ 63 → Only H → SqL K H a (ns.map V.int) → sp K [.ref a] H (fun v _ => v = .bl true) E0) :
    PySem.W.WalkO q loose XP YP l.row.toRowW d [] (fun f vs => PySem.call f vs) := by
  refine Att.attach_call most dflt ?_
  intro w s0 s1 mg mb fa o pm cd doc a vs ns G Y ho hd hcd hmg hobj iv short gens
  have kin := hY w _ Y
  obtain ⟨fd, hb, hF⟩ := F w mg fa _ kin G.T.g hmg
  exact end_vow kin G.T.g G.T.b G.T.builtins G.T.nolimit gens hobj iv (Nat.le_trans short (by decide)) room hF hb (fun H only lst => told _ H a ns short only lst)
end
end Kn


/-! Kn: texts: lengths and signs; the pure defs of the program and of the law. -/
namespace Kn
open PySem PySem.Spec PyProof.Rows L2

/-! ### texts -/
def Fit (n : Nat) (x : Str) : Prop := x.length ≤ n ∧ ∀ c ∈ x.cps.toList, c < 16 ^ 8
theorem Fit.mono {n m : Nat} {x : Str} (h : Fit n x) (l : n ≤ m) : Fit m x := ⟨Nat.le_trans h.1 l, h.2⟩
theorem len_app (a b : Str) : (a ++ b).length = a.length + b.length := by
  show (a.cps ++ b.cps).size = _
  rw [Array.size_append]
  rfl
theorem Fit.app {n m : Nat} {a b : Str} (h : Fit n a) (k : Fit m b) : Fit (n + m) (a ++ b) := by
  refine ⟨by rw [len_app]; have := h.1; have := k.1; omega, fun c hc => ?_⟩
  have hc : c ∈ (a.cps ++ b.cps).toList := hc
  rw [Array.toList_append, List.mem_append] at hc
  exact hc.elim (h.2 c) (k.2 c)
theorem app_assoc (a b c : Str) : a ++ b ++ c = a ++ (b ++ c) := by
  show Str.mk (a.cps ++ b.cps ++ c.cps) = Str.mk (a.cps ++ (b.cps ++ c.cps))
  rw [Array.append_assoc]
theorem nil_app (a : Str) : Str.empty ++ a = a := by
  show Str.mk (#[] ++ a.cps) = a
  rw [Array.empty_append]
theorem Fit.join {n m : Nat} {y : Str} (hy : Fit m y) : ∀ (xs : List Str), (∀ x ∈ xs, Fit n x) → Fit (xs.length * (n + m)) (Str.join y xs)
  | [], _ => ⟨Nat.zero_le _, fun c hc => by cases hc⟩
  | [x], h => (h x (List.mem_cons_self ..)).mono (by rw [List.length_singleton]; omega)
  | x :: z :: r, h => by
    have ih := Fit.join hy (z :: r) fun v hv => h v (List.mem_cons_of_mem _ hv)
    have q := ((h x (List.mem_cons_self ..)).app hy).app ih
    refine q.mono ?_
    simp only [List.length_cons, Nat.add_mul, Nat.one_mul]
    omega
theorem fit_string (s : String) : ∀ c ∈ (Str.ofString s).cps.toList, c < 16 ^ 8 := by
  intro c hc
  rw [Str.ofString_eq_toList] at hc
  have hc : c ∈ s.toList.map Char.toNat := by simpa using hc
  obtain ⟨d, _, rfl⟩ := List.mem_map.mp hc
  have h : d.toNat < 1114112 := by
    have v := d.valid
    have e : d.toNat = d.val.toNat := rfl
    rcases v with v | ⟨_, v⟩
    · rw [e]; have v : d.val.toNat < 55296 := v; omega
    · rw [e]; exact v
  exact Nat.lt_trans h (by decide)
theorem len_string (s : String) : (Str.ofString s).length = s.toList.length := by
  rw [Str.ofString_eq_toList]
  show ((s.toList.map Char.toNat).toArray).size = _
  rw [List.size_toArray, List.length_map]

/-! ### comprehensions that change nothing -/
theorem tupS {K : PySem.W.Frag} {H H' : Hp} {a : Addr} {xs : List V} (e : Same H H') (h : SqT K H a xs) : SqT K H' a xs := by
  rcases h with (h | ⟨o, h⟩) | h
  · exact .inl (.inl (e _ _ h))
  · exact .inl (.inr ⟨o, e _ _ h⟩)
  · exact .inr h
theorem same_new {H : Hp} {p : Addr} {o : HO} (h : H p = none) : Same H (upd H p o) := fun b x e => by
  rw [upd_ne (ne_of_none e h)]
  exact e
theorem putS {H H' : Hp} {p : Addr} {o : HO} (e : Same H H') (h : H p = none) : Same H (upd H' p o) := fun b x q => by
  rw [upd_ne (ne_of_none q h)]
  exact e _ _ q
theorem small' {n : Nat} (h : n ≤ 1000) : n < sizeLine := Nat.lt_of_le_of_lt h (by decide)
theorem take_next {ys : List V} {i : Nat} {y : V} (h : ys[i]? = some y) : ys.take i ++ [y] = ys.take (i + 1) := by
  rw [List.take_add_one, h]
  rfl
theorem lc_mapT {K : PySem.W.Frag} {a : Addr} {xs : List V} {slot : Nat} {te tl : TE} {vs : List Nat} {σ : L2.St} {H : Hp} {Q : VK} (ys : List V) (hl : ys.length = xs.length) (hs : xs.length ≤ 1000) (hT : SqT K H a xs)
    (htl : ∀ R : VK, R (.ref a) H → tl σ H R) (w : ∀ v, wipe ((wipe σ vs).set slot (some v)) vs = wipe σ vs)
    (turn : ∀ (i : Nat) (x y : V) (G : Hp) (R : VK), xs[i]? = some x → ys[i]? = some y → Same H G → (∀ G', Same G G' → R y G') → te ((wipe σ vs).set slot (some x)) G R)
    (done : ∀ (D : Addr) (G : Hp), H D = none → Same H G → G D = some (.lst ys) → Q (.ref D) G) : tLc (iTup K tl) (gName slot) tYes te vs σ H Q := by
  refine htl _ ⟨a, rfl, ⟨xs, hT⟩, fun D nD => ?_⟩
  refine lc_tup (K := K) (a := a) (xs := xs) (fun i G => Same H G ∧ G D = some (.lst (ys.take i))) ⟨same_new nD, upd_same⟩ (fun i G _ h => tupS h.1 hT) ?_ ?_
  · rintro i x G hx ⟨sm, hD⟩
    have hi : i < xs.length := (List.getElem?_eq_some_iff.mp hx).1
    have hy : ys[i]? = some (ys[i]'(by omega)) := List.getElem?_eq_getElem (by omega)
    refine ⟨w x, ?_⟩
    simp only [tYes, ↓reduceIte]
    refine turn i x _ G _ hx hy sm fun G' s' => ⟨ys.take i, s' _ _ hD, ?_, ?_, ?_⟩
    · rw [List.length_take]
      exact small' (by omega)
    · exact putS (sm.trans s') nD
    · rw [upd_same, take_next hy]
  · rintro G ⟨sm, hD⟩
    refine done D G nD sm ?_
    rw [hD, List.take_of_length_le (by omega)]
theorem lc_mapL {K : PySem.W.Frag} {a : Addr} {xs : List V} {slot : Nat} {te tl : TE} {vs : List Nat} {σ : L2.St} {H : Hp} {Q : VK} (ys : List V) (hl : ys.length = xs.length) (hs : xs.length ≤ 1000) (hT : SqL K H a xs)
    (htl : ∀ R : VK, R (.ref a) H → tl σ H R) (w : ∀ v, wipe ((wipe σ vs).set slot (some v)) vs = wipe σ vs)
    (turn : ∀ (i : Nat) (x y : V) (G : Hp) (R : VK), xs[i]? = some x → ys[i]? = some y → Same H G → (∀ G', Same G G' → R y G') → te ((wipe σ vs).set slot (some x)) G R)
    (done : ∀ (D : Addr) (G : Hp), H D = none → Same H G → G D = some (.lst ys) → Q (.ref D) G) : tLc (iList K tl) (gName slot) tYes te vs σ H Q := by
  refine htl _ ⟨a, rfl, ⟨xs, hT⟩, fun D nD => ?_⟩
  refine lc_list (K := K) (a := a) (xs := xs) (fun i G => Same H G ∧ G D = some (.lst (ys.take i))) ⟨same_new nD, upd_same⟩ (fun i G _ h => h.1.seq hT) ?_ ?_
  · rintro i x G hx ⟨sm, hD⟩
    have hi : i < xs.length := (List.getElem?_eq_some_iff.mp hx).1
    have hy : ys[i]? = some (ys[i]'(by omega)) := List.getElem?_eq_getElem (by omega)
    refine ⟨w x, ?_⟩
    simp only [tYes, ↓reduceIte]
    refine turn i x _ G _ hx hy sm fun G' s' => ⟨ys.take i, s' _ _ hD, ?_, ?_, ?_⟩
    · rw [List.length_take]
      exact small' (by omega)
    · exact putS (sm.trans s') nD
    · rw [upd_same, take_next hy]
  · rintro G ⟨sm, hD⟩
    refine done D G nD sm ?_
    rw [hD, List.take_of_length_le (by omega)]

/-! ### str of an int or a text -/
def shV : V → Str
  | .int i => Str.ofString (toString i)
  | .str z => z
  | _ => Str.empty
def FlatV : V → Prop
  | .int i => i.natAbs.log2 < 1920
  | .str _ => True
  | _ => False
theorem call_str_flat {X : Cx} : CallR X (.type "str") (fun xs H Q => ∃ v, xs = [v] ∧ FlatV v ∧ Q (.str (shV v)) H) := by
  rintro pins s σ H xs us Q I rv ⟨v, rfl, hv, q⟩
  cases v with
  | int i => exact call_str_int pins s σ H _ us Q I rv ⟨i, rfl, hv, q⟩
  | str z => exact SkE.call_str_str pins s σ H _ us Q I rv ⟨z, rfl, q⟩
  | _ => exact hv.elim

/-! ### the data -/
structure Ent where
  name : Str
  fee : Int
  has : Bool
  row : List Str
def Ent.ok (e : Ent) : Prop := Fit 8 e.name ∧ e.fee.natAbs < 10 ^ 60 ∧ e.row.length ≤ 8 ∧ ∀ s ∈ e.row, Fit 8 s
def EntAt (K : PySem.W.Frag) (H : Hp) (v : V) (e : Ent) : Prop := ∃ p q, v = .ref p ∧ SqT K H p [.str e.name, .int e.fee, .bl e.has, .ref q] ∧ SqT K H q (e.row.map V.str)
inductive EntsAt (K : PySem.W.Frag) (H : Hp) : List V → List Ent → Prop
  | nil : EntsAt K H [] []
  | cons {v : V} {vs : List V} {e : Ent} {es : List Ent} : EntAt K H v e → EntsAt K H vs es → EntsAt K H (v :: vs) (e :: es)
theorem EntAt.same {K : PySem.W.Frag} {H H' : Hp} {v : V} {e : Ent} (s : Same H H') : EntAt K H v e → EntAt K H' v e := fun ⟨p, q, a, b, c⟩ => ⟨p, q, a, tupS s b, tupS s c⟩
theorem EntsAt.same {K : PySem.W.Frag} {H H' : Hp} (s : Same H H') : ∀ {vs : List V} {es : List Ent}, EntsAt K H vs es → EntsAt K H' vs es
  | _, _, .nil => .nil
  | _, _, .cons a b => .cons (a.same s) (EntsAt.same s b)
theorem EntsAt.len {K : PySem.W.Frag} {H : Hp} : ∀ {vs : List V} {es : List Ent}, EntsAt K H vs es → vs.length = es.length
  | _, _, .nil => rfl
  | _, _, .cons _ b => congrArg Nat.succ (EntsAt.len b)
theorem EntsAt.get {K : PySem.W.Frag} {H : Hp} : ∀ {vs : List V} {es : List Ent} {i : Nat} {v : V}, EntsAt K H vs es → vs[i]? = some v → ∃ e, es[i]? = some e ∧ EntAt K H v e
  | _, _, i, v, .nil, h => by cases h
  | _, _, 0, v, .cons a b, h => by
    have h : some _ = some v := h
    cases h
    exact ⟨_, rfl, a⟩
  | _, _, i + 1, v, .cons a b, h => EntsAt.get (i := i) b h
theorem EntsAt.append {K : PySem.W.Frag} {H : Hp} : ∀ {vs ws : List V} {es ds : List Ent}, EntsAt K H vs es → EntsAt K H ws ds → EntsAt K H (vs ++ ws) (es ++ ds)
  | _, _, _, _, .nil, h => h
  | _, _, _, _, .cons a b, h => .cons a (EntsAt.append b h)
theorem EntsAt.rev {K : PySem.W.Frag} {H : Hp} : ∀ {vs : List V} {es : List Ent}, EntsAt K H vs es → EntsAt K H vs.reverse es.reverse
  | _, _, .nil => .nil
  | _, _, .cons a b => by
    rw [List.reverse_cons, List.reverse_cons]
    exact (EntsAt.rev b).append (.cons a .nil)
structure Pg where
  es : List Ent
  asks : Str
def Pg.ok (g : Pg) : Prop := g.es.length ≤ 12 ∧ (∀ e ∈ g.es, e.ok) ∧ Fit 8 g.asks
def PgAt (K : PySem.W.Frag) (H : Hp) (v : V) (g : Pg) : Prop := ∃ p q vs, v = .ref p ∧ SqT K H p [.ref q, .str g.asks] ∧ SqT K H q vs ∧ EntsAt K H vs g.es
theorem PgAt.same {K : PySem.W.Frag} {H H' : Hp} {v : V} {g : Pg} (s : Same H H') : PgAt K H v g → PgAt K H' v g := fun ⟨p, q, vs, a, b, c, d⟩ => ⟨p, q, vs, a, tupS s b, tupS s c, d.same s⟩

/-! ### the texts -/
def tabT (t : List Str) : Str := if t = [] then ("-" : Str) else Str.join "," t
def wordT (b : Bool) : Str := if b = true then ("has" : Str) else ("not" : Str)
def feeT (i : Int) : Str := Str.ofString (toString i)
def lineT (e : Ent) : Str := Str.join " " ["kind", e.name, feeT e.fee, wordT e.has, tabT e.row]
def pageT (g : Pg) : Str := Str.join "\n" (g.es.map lineT ++ [("asker " : Str) ++ g.asks])
theorem fit_of (s : String) {n : Nat} (h : s.toList.length ≤ n) : Fit n (Str.ofString s) := ⟨by rw [len_string]; exact h, fit_string s⟩
theorem fee_log {i : Int} (h : i.natAbs < 10 ^ 60) : i.natAbs.log2 < 1920 := by
  by_cases z : i.natAbs = 0
  · rw [z]; decide
  · exact (Nat.log2_lt z).mpr (Nat.lt_trans h (by decide))
theorem feeT_fit {i : Int} (h : i.natAbs < 10 ^ 60) : Fit 61 (feeT i) := by
  refine fit_of _ ?_
  have := int_text_length_le10 (k := 60) (by decide) h
  rw [String.length_toList]
  exact this
theorem tabT_fit {t : List Str} (h : t.length ≤ 8) (k : ∀ s ∈ t, Fit 8 s) : Fit 100 (tabT t) := by
  unfold tabT
  split
  · exact fit_of "-" (by decide)
  · refine (Fit.join (m := 1) (fit_of "," (by decide)) t k).mono ?_
    have := Nat.mul_le_mul_right (8 + 1) h
    omega
theorem wordT_fit (b : Bool) : Fit 3 (wordT b) := by
  unfold wordT
  split
  · exact fit_of "has" (by decide)
  · exact fit_of "not" (by decide)
theorem lineT_fit {e : Ent} (h : e.ok) : Fit 600 (lineT e) := by
  obtain ⟨h1, h2, h3, h4⟩ := h
  refine (Fit.join (n := 100) (m := 1) (fit_of " " (by decide)) _ ?_).mono (by simp)
  intro x hx
  simp only [List.mem_cons, List.not_mem_nil, or_false] at hx
  rcases hx with rfl | rfl | rfl | rfl | rfl
  · exact (fit_of "kind" (n := 100) (by decide))
  · exact h1.mono (by omega)
  · exact (feeT_fit h2).mono (by omega)
  · exact (wordT_fit _).mono (by omega)
  · exact (tabT_fit h3 h4)
theorem askT_fit {g : Pg} (h : g.ok) : Fit 600 (("asker " : Str) ++ g.asks) := ((fit_of "asker " (n := 6) (by decide)).app h.2.2).mono (by omega)
theorem pageT_fit {g : Pg} (h : g.ok) : Fit 10000 (pageT g) := by
  refine (Fit.join (n := 600) (m := 1) (fit_of "\n" (by decide)) _ ?_).mono ?_
  · intro x hx
    rcases List.mem_append.mp hx with hx | hx
    · obtain ⟨e, he, rfl⟩ := List.mem_map.mp hx
      exact lineT_fit (h.2.1 e he)
    · obtain rfl := List.mem_singleton.mp hx
      exact askT_fit h
  · have := Nat.mul_le_mul_right (600 + 1) h.1
    rw [List.length_append, List.length_map, List.length_singleton, Nat.add_mul]
    omega
theorem kind_sp : ("kind " : Str) = ("kind" : Str) ++ (" " : Str) := by decide +kernel
theorem line_chain (e : Ent) : Str.empty ++ ("kind " : Str) ++ e.name ++ (" " : Str) ++ feeT e.fee ++ (" " : Str) ++ wordT e.has ++ (" " : Str) ++ tabT e.row = lineT e := by
  unfold lineT
  simp only [Str.join, app_assoc, nil_app, kind_sp]
end Kn


namespace Kn
open PySem PySem.Spec PyProof.Rows L2
def topS (i : Nat) : Stmt := PySem.Challenge.pw_firstletter_k04_whole_stores_listed.main.body.getD i (.Pass ⟨0, 0, 0, 0⟩)
theorem sum_le {n : Nat} : ∀ (ys : List Str), (∀ y ∈ ys, Fit n y) → (ys.map (·.length)).sum ≤ ys.length * n
  | [], _ => Nat.zero_le _
  | y :: r, h => by
    have ih := sum_le r fun v hv => h v (List.mem_cons_of_mem _ hv)
    have q := (h y (List.mem_cons_self ..)).1
    rw [List.map_cons, List.sum_cons, List.length_cons, Nat.add_mul]
    omega
/-- what join asks: few short texts -/
theorem join_room {n m : Nat} {a : Str} {ys : List Str} (h : ∀ y ∈ ys, Fit n y) (ha : a.length ≤ 10) (hl : ys.length ≤ m) (hm : m * (n + 10) ≤ 16777216) : (ys.map (·.length)).sum + ys.length * a.length ≤ 16777216 := by
  have h1 := sum_le ys h
  have h2 : ys.length * (n + 10) ≤ m * (n + 10) := Nat.mul_le_mul_right _ hl
  have h3 : ys.length * a.length ≤ ys.length * 10 := Nat.mul_le_mul_left _ ha
  rw [Nat.mul_add] at h2
  omega
theorem size16 : 16777216 ≤ sizeLine := by decide
theorem map_get {α β : Type} {f : α → β} {l : List α} {i : Nat} {y : β} (h : (l.map f)[i]? = some y) : ∃ x, l[i]? = some x ∧ f x = y := by
  rw [List.getElem?_map] at h
  exact Option.map_eq_some_iff.mp h
theorem seq_asg {te : TE} {g : TG} {u : TS} {D : Ends} {σ : L2.St} {H : Hp} (h : te σ H fun x H1 => g x σ H1 (u D)) : tSeq (tAsg te g) u D σ H := h
theorem big_of {n : Nat} {x : Str} (h : Fit n x) (l : n ≤ 100000) : x.length ≤ sizeLine := Nat.le_trans h.1 (Nat.le_trans l (by decide))
end Kn


namespace Kn
open PySem PySem.Spec PyProof.Rows L2
/-! ### the feed -/
abbrev kCells : Key := .inr "cells"
abbrev kAt : Key := .inr "at"
abbrev kHeld : Key := .inr "held"
abbrev kCount : Key := .inr "count"
theorem d1 : ¬ kCells = kAt := by decide +kernel
theorem d2 : ¬ kCells = kHeld := by decide +kernel
theorem d3 : ¬ kCells = kCount := by decide +kernel
theorem d4 : ¬ kAt = kHeld := by decide +kernel
theorem d5 : ¬ kAt = kCount := by decide +kernel
theorem d6 : ¬ kHeld = kCount := by decide +kernel
structure Four (a : Addr) (t h n : Int) (kvs : List (Key × V)) : Prop where
  few : kvs.length ≤ 4
  cells : valV kvs kCells = some (.ref a)
  at_ : valV kvs kAt = some (.int t)
  held : valV kvs kHeld = some (.int h)
  count : valV kvs kCount = some (.int n)
theorem putK_len {kvs : List (Key × V)} {k : Key} {x v : V} (h : valV kvs k = some x) : (putK kvs k v).length = kvs.length := by
  unfold putK
  rw [if_pos (by rw [valV_any, h]; rfl), List.length_map]
section
variable {a : Addr} {t h n : Int} {kvs : List (Key × V)}
theorem Four.put_at (q : Four a t h n kvs) (x : Int) : Four a x h n (putK kvs kAt (.int x)) :=
  ⟨by rw [putK_len q.at_]; exact q.few, by rw [valV_put, if_neg d1]; exact q.cells, by rw [valV_put, if_pos rfl], by rw [valV_put, if_neg fun e => d4 e.symm]; exact q.held, by rw [valV_put, if_neg fun e => d5 e.symm]; exact q.count⟩
theorem Four.put_held (q : Four a t h n kvs) (x : Int) : Four a t x n (putK kvs kHeld (.int x)) :=
  ⟨by rw [putK_len q.held]; exact q.few, by rw [valV_put, if_neg d2]; exact q.cells, by rw [valV_put, if_neg d4]; exact q.at_, by rw [valV_put, if_pos rfl], by rw [valV_put, if_neg fun e => d6 e.symm]; exact q.count⟩
theorem Four.put_count (q : Four a t h n kvs) (x : Int) : Four a t h x (putK kvs kCount (.int x)) :=
  ⟨by rw [putK_len q.count]; exact q.few, by rw [valV_put, if_neg d3]; exact q.cells, by rw [valV_put, if_neg d5]; exact q.at_, by rw [valV_put, if_neg d6]; exact q.held, by rw [valV_put, if_pos rfl]⟩
theorem four_new (a : Addr) : Four a 0 0 0 (mergeK [] [(kCells, .ref a), (kAt, .int 0), (kHeld, .int 0), (kCount, .int 0)]) := by
  have e : mergeK [] [(kCells, V.ref a), (kAt, .int 0), (kHeld, .int 0), (kCount, .int 0)] = putK (putK (putK (putK [] kCells (.ref a)) kAt (.int 0)) kHeld (.int 0)) kCount (.int 0) := rfl
  refine ⟨length_mergeK _ _, ?_, ?_, ?_, ?_⟩
  · rw [e, valV_put, if_neg d3, valV_put, if_neg d2, valV_put, if_neg d1, valV_put, if_pos rfl]
  · rw [e, valV_put, if_neg d5, valV_put, if_neg d4, valV_put, if_pos rfl]
  · rw [e, valV_put, if_neg d6, valV_put, if_pos rfl]
  · rw [e, valV_put, if_pos rfl]
end
/-- the feed at f, its cells at a; at most c draws were made -/
structure Fd (f a : Addr) (ns : List Int) (H : Hp) (c : Nat) : Prop where
  ex : ∃ kvs t h n, H f = some (.dK kvs) ∧ Four a t h n kvs ∧ 0 ≤ t ∧ t ≤ n ∧ n ≤ (c : Int)
  cl : H a = some (.lst (ns.map V.int))
  few : ns.length ≤ 63
def Keep (f : Addr) (H H' : Hp) : Prop := ∀ b o, b ≠ f → H b = some o → H' b = some o
theorem Keep.refl (f : Addr) (H : Hp) : Keep f H H := fun _ _ _ h => h
theorem Keep.trans {f : Addr} {H H1 H2 : Hp} (a : Keep f H H1) (b : Keep f H1 H2) : Keep f H H2 := fun c o n h => b c o n (a c o n h)
theorem keep_same {f : Addr} {H H1 : Hp} (s : Same H H1) : Keep f H H1 := fun b o _ h => s b o h
theorem keep_upd {f : Addr} {H : Hp} {o : HO} : Keep f H (upd H f o) := fun b x n h => by rw [upd_ne n]; exact h
theorem Fd.more {f a : Addr} {ns : List Int} {H : Hp} {c d : Nat} (h : Fd f a ns H c) (l : c ≤ d) : Fd f a ns H d := by
  obtain ⟨⟨kvs, t, x, n, h1, h2, h3, h4, h5⟩, h6, h7⟩ := h
  exact ⟨⟨kvs, t, x, n, h1, h2, h3, h4, by omega⟩, h6, h7⟩
theorem Fd.same {f a : Addr} {ns : List Int} {H H' : Hp} {c : Nat} (h : Fd f a ns H c) (s : Same H H') : Fd f a ns H' c := by
  obtain ⟨⟨kvs, t, x, n, h1, h2⟩, h6, h7⟩ := h
  exact ⟨⟨kvs, t, x, n, s _ _ h1, h2⟩, s _ _ h6, h7⟩
/-- a list of one's own changes -/
theorem Fd.own {f a D : Addr} {ns : List Int} {H : Hp} {c : Nat} {o : HO} (h : Fd f a ns H c) (n1 : f ≠ D) (n2 : a ≠ D) : Fd f a ns (upd H D o) c := by
  obtain ⟨⟨kvs, t, x, n, h1, h2⟩, h6, h7⟩ := h
  exact ⟨⟨kvs, t, x, n, by rw [upd_ne n1]; exact h1, h2⟩, by rw [upd_ne n2]; exact h6, h7⟩
theorem Fd.ne {f a : Addr} {ns : List Int} {H : Hp} {c : Nat} (h : Fd f a ns H c) : a ≠ f := by
  obtain ⟨⟨kvs, t, x, n, h1, _⟩, h6, _⟩ := h
  exact ne_of h6 h1 (by intro z; cases z)
theorem Fd.free {f a D : Addr} {ns : List Int} {H : Hp} {c : Nat} (h : Fd f a ns H c) (n : H D = none) : f ≠ D ∧ a ≠ D := by
  obtain ⟨⟨kvs, t, x, n', h1, _⟩, h6, _⟩ := h
  exact ⟨ne_of_none h1 n, ne_of_none h6 n⟩
/-- the feed's dict changes -/
theorem Fd.put {f a : Addr} {ns : List Int} {H : Hp} {c : Nat} {kvs : List (Key × V)} {t h n : Int} (q : Fd f a ns H c) (F : Four a t h n kvs) (h0 : 0 ≤ t) (h1 : t ≤ n) (h2 : n ≤ (c : Int)) : Fd f a ns (upd H f (.dK kvs)) c :=
  ⟨⟨kvs, t, h, n, upd_same, F, h0, h1, h2⟩, by rw [upd_ne q.ne]; exact q.cl, q.few⟩

theorem dpAll_ints {K : PySem.W.Frag} {H : Hp} : ∀ ns : List Int, DpAll K H (ns.map V.int) (ns.map PyData.int)
  | [] => .nil
  | n :: r => .cons (.int n) (dpAll_ints r)
end Kn


namespace Kn
open PySem PySem.Spec PyProof.Rows L2
abbrev nDraw : List Str := ["_law_feed", "_law_many", "_law_count", "_law_digit", "_law_cells", "_law_at", "_law_cell", "_law_mixed"]
theorem scDraw : FnScope nDraw ["_law_feed", "_law_many"] (defScope (topS 23)) := ⟨rfl, rfl, rfl, by decide +kernel, rfl, by decide +kernel, by decide +kernel⟩
theorem lay_ints : ∀ ns : List Int, PyData.canLayAll0 (ns.map PyData.int) = true
  | [] => rfl
  | n :: r => by
    show (PyData.canLay0 (.int n) && PyData.canLayAll0 (r.map PyData.int)) = true
    rw [lay_ints r]
    rfl
theorem depth_ints : ∀ ns : List Int, PyData.depthAll (ns.map PyData.int) = 0
  | [] => rfl
  | n :: r => by
    show max (PyData.depth (.int n)) (PyData.depthAll (r.map PyData.int)) = 0
    rw [depth_ints r]
    rfl
theorem shaped_ints (ns : List Int) : SeqAt.shaped (.list (ns.map PyData.int)) = true := by
  unfold SeqAt.shaped
  have h1 : PyData.canLay0 (.list (ns.map PyData.int)) = true := by
    show PyData.canLayAll0 (ns.map PyData.int) = true
    exact lay_ints ns
  have h2 : PyData.depth (.list (ns.map PyData.int)) = 1 := by
    show PyData.depthAll (ns.map PyData.int) + 1 = 1
    rw [depth_ints]
  rw [h1, h2]
  rfl
theorem eqv_nil_ints (ns : List Int) : PyData.eqv (.list (ns.map PyData.int)) (.list []) = ns.isEmpty := by
  cases ns with
  | nil => rfl
  | cons n r => rfl
theorem sq_bound {s : Int} (h0 : 0 ≤ s) (h1 : s ≤ 100001) : 0 ≤ 7027 * s * s ∧ 7027 * s * s ≤ 70571415787057 + 100000000000000 := by
  have a : 0 ≤ 7027 * s := by omega
  have b : 7027 * s ≤ 702707027 := by omega
  have c := Int.mul_nonneg a h0
  have d := Int.mul_le_mul b h1 h0 (by decide : (0 : Int) ≤ 702707027)
  exact ⟨c, Int.le_trans d (by decide)⟩
theorem at_mod {ns : List Int} {t : Int} (h : 0 ≤ t) (pos : 0 < ns.length) : ∃ x : Int, atI (ns.map V.int) (t % ((ns.map V.int).length : Int)) = some (.int x) := by
  rw [List.length_map]
  have h0 := Int.emod_nonneg t (show (ns.length : Int) ≠ 0 by omega)
  have h1 := Int.emod_lt_of_pos t (show (0 : Int) < (ns.length : Int) by omega)
  obtain ⟨j, hj⟩ := Int.eq_ofNat_of_zero_le h0
  rw [hj] at h1 ⊢
  have hl : j < ns.length := by omega
  refine ⟨ns[j], at_of rfl ?_⟩
  rw [List.getElem?_map, List.getElem?_eq_getElem hl]
  rfl
def spDraw : Sp := fun vs H Q _ => ∃ (f a : Addr) (ns : List Int) (c : Nat) (m : Int), vs = [.ref f, .int m] ∧ 0 < m ∧ m ≤ 1000 ∧ Fd f a ns H c ∧ c < 100000 ∧
  ∀ (r : Int) (H' : Hp), 0 ≤ r → r < m → Keep f H H' → Fd f a ns H' (c + 1) → Q (.int r) H'
section
variable {P : Program} {w : World} {K : PySem.W.Frag} {mg : Str → Option Value} {base : Heap}
theorem ok_draw {g : Addr} {fd : FuncData} (F : Fun K "_law_draw" "_law_draw" (topS 23) g fd) (mi : mg "int" = none) (ml : mg "len" = none) : FnOk P w K mg base CX0 1 g fd ["_law_feed", "_law_many"] spDraw := by
  refine F.ok scDraw (fun vs H Q E h => ?_) (fun cdv A outer s H vs Q E hr h => ?_)
  · obtain ⟨f, a, ns, c, m, rfl, _⟩ := h
    rfl
  · obtain ⟨f, a, ns, c, m, rfl, m0, m1, fd0, hc, q⟩ := h
    have hu := hu_of hr
    obtain ⟨kvs, t, hh, n, e1, four, t0, tn, nc⟩ := fd0.ex
    refine ⟨_, pss_cons (ps_set (i := 2) scDraw.nd rfl (.inl rfl) (pe_op op_add (pe_dget hu (pv 0) pe_str (fun _ _ => rfl)) pe_int))
      (pss_cons (ps_dput hu (pv 0) pe_str (pv 2) rfl)
      (pss_cons (ps_if (pt_cmpR op_gt (pe_dget hu (pv 0) pe_str (fun _ _ => rfl)) pe_int (nomark _))
        (pss_cons (ps_set (i := 3) scDraw.nd rfl (.inl rfl) (pe_op op_mod (pe_callTy call_int1 (by rfl) mi boot_int (pa_cons (pe_dget hu (pv 0) pe_str (fun _ _ => rfl)) pa_nil)) (pv 1)))
        (pss_cons (ps_dput hu (pv 0) pe_str (pe_op op_fdivN (pe_dget hu (pv 0) pe_str (fun _ _ => rfl)) (pv 1)) rfl)
        (pss_one (ps_ret (pv 3))))) pss_nil)
      (pss_cons (ps_par (i := 4) (j := 5) (by rfl) scDraw.nd rfl rfl (by decide) rfl rfl (pa_cons (pe_dget hu (pv 0) pe_str (fun _ _ => rfl)) (pa_cons (pe_dget hu (pv 0) pe_str (fun _ _ => rfl)) pa_nil)) (by rfl))
      (pss_cons (ps_dput hu (pv 0) pe_str (pe_op op_add (pv 5) pe_int) rfl)
      (pss_cons (ps_set (i := 6) scDraw.nd rfl (.inl rfl) (pe_ifExp (pt_cmpR (op_neD hr.units) (pv 4) (pe_lst pa_nil) (nomark _))
        (pe_ix ix_list (pv 4) (pe_op op_mod (pe_callTy call_int1 (by rfl) mi boot_int (pa_cons (pv 5) pa_nil)) (pe_callB call_len_seq (by rfl) ml PySem.boot_len (pa_cons (pv 4) pa_nil))) (fun _ _ => rfl)) pe_int))
      (pss_cons (ps_if (PW.pt (pw_and (pt_cmpR op_ge (pv 6) (pe_op op_pow pe_int pe_int) (nomark _)) (pw_and1 (pt_cmpR op_lt (pv 5) (pe_callB call_len_seq (by rfl) ml PySem.boot_len (pa_cons (pv 4) pa_nil)) (nomark _)))))
        (pss_cons (ps_dput hu (pv 0) pe_str (pe_op op_fdivN (pv 6) (pv 1)) rfl)
        (pss_one (ps_ret (pe_op op_mod (pe_callTy call_int1 (by rfl) mi boot_int (pa_cons (pv 6) pa_nil)) (pv 1))))) pss_nil)
      (pss_cons (ps_set (i := 7) scDraw.nd rfl (.inl rfl) (pe_op op_mod (pe_callTy call_int1 (by rfl) mi boot_int (pa_cons (pe_op op_pow
        (pe_op op_add (pe_op op_add (pe_op op_mod (pe_callTy call_int1 (by rfl) mi boot_int (pa_cons (pv 6) pa_nil)) pe_int) (pe_op op_mul pe_int (pv 2))) pe_int) pe_int) pa_nil)) pe_int))
      (pss_cons (ps_set (i := 7) scDraw.nd rfl (.inl rfl) (pe_op op_mod (pe_callTy call_int1 (by rfl) mi boot_int (pa_cons (pe_op op_pow
        (pe_op op_add (pe_op op_add (pv 7) (pe_op op_mul (pe_op op_mul pe_int (pv 2)) (pv 2))) pe_int) pe_int) pa_nil)) pe_int))
      (pss_one (ps_ret (pe_op op_mod (pe_callTy call_int1 (by rfl) mi boot_int (pa_cons (pe_op op_fdiv (pv 7) pe_int) pa_nil)) (pv 1)))))))))))), ?_⟩
    have n0 : 0 ≤ n := Int.le_trans t0 tn
    have dg : ∀ {H : Hp} {kvs : List (Key × V)} {k : Key} {v : V}, H f = some (.dK kvs) → valV kvs k = some v → DGet H f (kV k) (some v) := fun e z => by
      rw [← z]
      exact DGet.k e
    have four2 := four.put_count (n + 1)
    have fd2 : Fd f a ns (upd H f (.dK (putK kvs kCount (.int (n + 1))))) (c + 1) := (fd0.more (Nat.le_succ c)).put four2 t0 (by omega) (by omega)
    -- count
    refine ⟨_, rfl, f, .int n, rfl, dg (k := kCount) e1 four.count, n, 1, rfl, rfl, ?_⟩
    refine ⟨_, rfl, _, rfl, f, _, rfl, DPut.k (k := kCount) e1 (small' (Nat.le_trans four.few (by decide))), ?_⟩
    have k2 : Keep f H (upd H f (.dK (putK kvs kCount (.int (n + 1))))) := keep_upd
    have e2 : (upd H f (.dK (putK kvs kCount (.int (n + 1))))) f = some (.dK (putK kvs kCount (.int (n + 1)))) := upd_same
    generalize upd H f (.dK (putK kvs kCount (.int (n + 1)))) = H2 at fd2 e2 k2 ⊢
    generalize putK kvs kCount (.int (n + 1)) = kv2 at four2 e2
    have fw : 4 ≤ sizeLine := by decide
    have m3 : ∀ x : Int, 0 ≤ x % m ∧ x % m < m := fun x => ⟨Int.emod_nonneg _ (by omega), Int.emod_lt_of_pos _ m0⟩
    have cd : CDivN hh m := ⟨by omega, by omega⟩
    refine ⟨_, rfl, f, .int hh, rfl, dg (k := kHeld) e2 four2.held, hh, 0, rfl, rfl, _, rfl, ite2 (fun _ => ?_) (fun _ => ?_)⟩
    · -- a figure of what is held
      refine ⟨_, rfl, f, .int hh, rfl, dg (k := kHeld) e2 four2.held, .inl ⟨hh, rfl, _, rfl, hh, m, rfl, rfl, m0, ?_⟩⟩
      refine ⟨_, rfl, f, .int hh, rfl, dg (k := kHeld) e2 four2.held, _, rfl, hh, m, rfl, rfl, cd, ?_⟩
      refine ⟨_, rfl, f, _, rfl, DPut.k (k := kHeld) e2 (small' (Nat.le_trans four2.few (by decide))), ?_⟩
      exact ⟨_, rfl, q _ _ (m3 hh).1 (m3 hh).2 (k2.trans keep_upd) (fd2.put (four2.put_held _) t0 (by omega) (by omega))⟩
    · -- the next cell
      refine ⟨_, rfl, f, .ref a, rfl, dg (k := kCells) e2 four2.cells, _, rfl, f, .int t, rfl, dg (k := kAt) e2 four2.at_, _, _, rfl, ?_⟩
      have four3 := four2.put_at (t + 1)
      have fd3 := fd2.put four3 (by omega) (by omega) (by omega)
      have k3 := k2.trans (keep_upd (f := f) (H := H2) (o := .dK (putK kv2 kAt (.int (t + 1)))))
      have e3 : (upd H2 f (.dK (putK kv2 kAt (.int (t + 1))))) f = some (.dK (putK kv2 kAt (.int (t + 1)))) := upd_same
      refine ⟨_, rfl, t, 1, rfl, rfl, _, rfl, f, _, rfl, DPut.k (k := kAt) e2 (small' (Nat.le_trans four2.few (by decide))), ?_⟩
      generalize upd H2 f (.dK (putK kv2 kAt (.int (t + 1)))) = H3 at fd3 e3 k3 ⊢
      generalize putK kv2 kAt (.int (t + 1)) = kv3 at four3 e3
      have cl : SqL K H3 a (ns.map V.int) := .inl (.inl fd3.cl)
      refine ⟨.ref a, rfl, Nat.zero_le _, fun z nz => ⟨.list (ns.map PyData.int), .list [], .lst (.inl (.inl (by rw [upd_ne (fd3.free nz).2]; exact fd3.cl))) (dpAll_ints ns), .lst (.inl (.inl upd_same)) .nil, shaped_ints ns, rfl, _, rfl, ?_⟩⟩
      have k4 : Keep f H (upd H3 z (.lst [])) := k3.trans (keep_same (same_new nz))
      have fd4 : Fd f a ns (upd H3 z (.lst [])) (c + 1) := fd3.own (fd3.free nz).1 (fd3.free nz).2
      have e4 : (upd H3 z (.lst [])) f = some (.dK kv3) := by rw [upd_ne (fd3.free nz).1]; exact e3
      generalize upd H3 z (.lst []) = H4 at k4 fd4 e4 ⊢
      have cl4 : SqL K H4 a (ns.map V.int) := .inl (.inl fd4.cl)
      have s0 : 0 ≤ n + 1 := by omega
      have s1 : n + 1 ≤ 100001 := by omega
      have sq := sq_bound s0 s1
      rw [eqv_nil_ints]
      cases hns : ns.isEmpty
      case' false =>
        have pos : 0 < ns.length := by
          cases ns with
          | nil => cases hns
          | cons _ _ => exact Nat.succ_pos _
        obtain ⟨x, hx⟩ := at_mod (ns := ns) (t := t) t0 pos
        refine iteT ⟨.ref a, rfl, _, rfl, .inl ⟨t, rfl, .ref a, rfl, a, ns.map V.int, rfl, .inl cl4, t, _, rfl, rfl, (by rw [List.length_map]; omega), a, ns.map V.int, _, .int x, rfl, rfl, cl4, hx, ?_⟩⟩
      case' true =>
        refine iteF ?_
        show Ends.nx _ (List.set _ 6 (some (V.int 367))) H4
        generalize (367 : Int) = x
      all_goals
        have tail : ∀ (y : Int), 0 ≤ y → y < 2147483629 → (y + 7027 * (n + 1) * (n + 1) + 229).natAbs < 2 ^ 64 := fun y y0 y1 => by omega
        have head : (x % 1000000093 + 40037 * (n + 1) + 1031).natAbs < 2 ^ 64 := by
          have := Int.emod_nonneg x (show (1000000093 : Int) ≠ 0 by decide)
          have := Int.emod_lt_of_pos x (show (0 : Int) < 1000000093 by decide)
          omega
        have mids : ∀ u : Int, 0 ≤ u % 2147483629 ∧ u % 2147483629 < 2147483629 := fun u => ⟨Int.emod_nonneg _ (by decide), Int.emod_lt_of_pos _ (by decide)⟩
        refine ⟨_, rfl, 10, 18, rfl, rfl, ⟨by decide, by decide, by decide⟩, x, _, rfl, rfl, _, rfl, ite2 (fun _ => ⟨_, rfl, .ref a, rfl, a, _, rfl, .inl cl4, t, _, rfl, rfl, _, rfl, ite2 (fun _ => ?_) (fun _ => ?_)⟩) (fun _ => ?_)⟩
        · refine ⟨_, rfl, _, rfl, x, m, rfl, rfl, ⟨by omega, by omega⟩, _, rfl, f, _, rfl, DPut.k (k := kHeld) e4 (small' (Nat.le_trans four3.few (by decide))), ?_⟩
          exact ⟨_, rfl, .inl ⟨x, rfl, _, rfl, x, m, rfl, rfl, m0, q _ _ (m3 x).1 (m3 x).2 (k4.trans keep_upd) (fd4.put (four3.put_held _) (by omega) (by omega) (by omega))⟩⟩
        all_goals
          refine ⟨_, rfl, .inl ⟨x, rfl, x, _, rfl, rfl, (show (0 : Int) < 1000000093 by decide), _, rfl, _, n + 1, rfl, rfl, .inl ⟨by decide, by decide⟩, _, _, rfl, rfl, _, _, rfl, rfl, _, _, rfl, rfl, ⟨by decide, by decide, head⟩, .inl ⟨_, rfl, _, _, rfl, rfl, (show (0 : Int) < 2147483629 by decide), ?_⟩⟩⟩
          obtain ⟨y0, y1⟩ := mids ((x % 1000000093 + 40037 * (n + 1) + 1031) ^ (2 : Int).toNat)
          refine ⟨_, rfl, _, rfl, _, n + 1, rfl, rfl, .inl ⟨by decide, by decide⟩, _, rfl, _, n + 1, rfl, rfl, .inl ⟨by omega, by omega⟩, _, _, rfl, rfl, _, _, rfl, rfl, _, _, rfl, rfl, ⟨by decide, by decide, tail _ y0 y1⟩, .inl ⟨_, rfl, _, _, rfl, rfl, (show (0 : Int) < 2147483587 by decide), ?_⟩⟩
          exact ⟨_, rfl, _, _, rfl, rfl, ⟨by decide, by decide⟩, .inl ⟨_, rfl, _, rfl, _, m, rfl, rfl, m0, q _ _ (m3 _).1 (m3 _).2 k4 fd4⟩⟩
end
end Kn


namespace Kn
open PySem PySem.Spec PyProof.Rows L2
/-! ### what stays -/
def TS (H H' : Hp) : Prop := (∀ b xs, H b = some (.tup xs) → H' b = some (.tup xs)) ∧ ∀ b o xs, H b = some (.frz o (.tup xs)) → H' b = some (.frz o (.tup xs))
theorem TS.refl (H : Hp) : TS H H := ⟨fun _ _ h => h, fun _ _ _ h => h⟩
theorem TS.trans {H H1 H2 : Hp} (a : TS H H1) (b : TS H1 H2) : TS H H2 := ⟨fun c x h => b.1 c x (a.1 c x h), fun c o x h => b.2 c o x (a.2 c o x h)⟩
theorem ts_same {H H' : Hp} (s : Same H H') : TS H H' := ⟨fun b xs h => s b _ h, fun b o xs h => s b _ h⟩
theorem ts_keep {f : Addr} {H H' : Hp} {kvs : List (Key × V)} (e : H f = some (.dK kvs)) (k : Keep f H H') : TS H H' :=
  ⟨fun b xs h => k b _ (ne_of h e (by intro z; cases z)) h, fun b o xs h => k b _ (ne_of h e (by intro z; cases z)) h⟩
theorem ts_fd {f a : Addr} {ns : List Int} {H H' : Hp} {c : Nat} (d : Fd f a ns H c) (k : Keep f H H') : TS H H' := by
  obtain ⟨⟨kvs, t, x, n, h1, _⟩, _, _⟩ := d
  exact ts_keep h1 k
theorem ts_lst {D : Addr} {H : Hp} {acc : List V} {o : HO} (e : H D = some (.lst acc)) : TS H (upd H D o) :=
  ⟨fun b xs h => by rw [upd_ne (ne_of h e (by intro z; cases z))]; exact h, fun b o xs h => by rw [upd_ne (ne_of h e (by intro z; cases z))]; exact h⟩
theorem tupT {K : PySem.W.Frag} {H H' : Hp} {a : Addr} {xs : List V} (s : TS H H') (h : SqT K H a xs) : SqT K H' a xs := by
  rcases h with (h | ⟨o, h⟩) | h
  · exact .inl (.inl (s.1 _ _ h))
  · exact .inl (.inr ⟨o, s.2 _ _ _ h⟩)
  · exact .inr h
theorem EntAt.ts {K : PySem.W.Frag} {H H' : Hp} {v : V} {e : Ent} (s : TS H H') : EntAt K H v e → EntAt K H' v e := fun ⟨p, q, a, b, c⟩ => ⟨p, q, a, tupT s b, tupT s c⟩
theorem EntsAt.ts {K : PySem.W.Frag} {H H' : Hp} (s : TS H H') : ∀ {vs : List V} {es : List Ent}, EntsAt K H vs es → EntsAt K H' vs es
  | _, _, .nil => .nil
  | _, _, .cons a b => .cons (a.ts s) (EntsAt.ts s b)
theorem PgAt.ts {K : PySem.W.Frag} {H H' : Hp} {v : V} {g : Pg} (s : TS H H') : PgAt K H v g → PgAt K H' v g := fun ⟨p, q, vs, a, b, c, d⟩ => ⟨p, q, vs, a, tupT s b, tupT s c, d.ts s⟩
theorem fd_ne {f a p : Addr} {ns : List Int} {H : Hp} {c : Nat} {xs : List V} (d : Fd f a ns H c) (h : H p = some (.lst xs)) : p ≠ f := by
  obtain ⟨⟨kvs, t, x, n, h1, _⟩, _, _⟩ := d
  exact ne_of h h1 (by intro z; cases z)
theorem seqK {K : PySem.W.Frag} {f a p : Addr} {ns : List Int} {H H' : Hp} {c : Nat} {xs : List V} (d : Fd f a ns H c) (k : Keep f H H') (h : SqL K H p xs) : SqL K H' p xs := by
  obtain ⟨⟨kvs, t, x, n, h1, _⟩, _, _⟩ := d
  rcases h with (h | ⟨o, h⟩) | h
  · exact .inl (.inl (k _ _ (ne_of h h1 (by intro z; cases z)) h))
  · exact .inl (.inr ⟨o, k _ _ (ne_of h h1 (by intro z; cases z)) h⟩)
  · exact .inr h

abbrev nStart : List Str := ["_law_script"]
theorem scStart : FnScope nStart ["_law_script"] (defScope (topS 22)) := ⟨rfl, rfl, rfl, by decide +kernel, rfl, by decide +kernel, by decide +kernel⟩
abbrev nAny : List Str := ["_law_feed", "_law_some"]
theorem scAny : FnScope nAny ["_law_feed", "_law_some"] (defScope (topS 24)) := ⟨rfl, rfl, rfl, by decide +kernel, rfl, by decide +kernel, by decide +kernel⟩
abbrev nLab : List Str := ["_law_feed", "_law_many", "_law_pool", "_law_first", "_law_stride", "_law_k"]
theorem scLab : FnScope nLab ["_law_feed", "_law_many"] (defScope (topS 25)) := ⟨rfl, rfl, rfl, by decide +kernel, rfl, by decide +kernel, by decide +kernel⟩
def spStart (K : PySem.W.Frag) : Sp := fun vs H Q _ => ∃ (s : Addr) (ns : List Int), vs = [.ref s] ∧ SqL K H s (ns.map V.int) ∧ ns.length ≤ 63 ∧
  ∀ (f a : Addr) (ms : List Int) (H' : Hp), H f = none → Same H H' → Fd f a ms H' 0 → Q (.ref f) H'
def spAny (K : PySem.W.Frag) : Sp := fun vs H Q _ => ∃ (f a p : Addr) (ns : List Int) (c : Nat) (xs : List V), vs = [.ref f, .ref p] ∧ Fd f a ns H c ∧ c < 100000 ∧ SqL K H p xs ∧ 0 < xs.length ∧ xs.length ≤ 1000 ∧
  ∀ (x : V) (H' : Hp), x ∈ xs → Keep f H H' → Fd f a ns H' (c + 1) → Q x H'
def pool1 : List Str := ["a", "b", "c", "d", "e", "f", "g"]
def pool2 : List Str := ["ab", "a", "abc", "b", "ba", "z", "abcdefgh"]
def pool3 : List Str := ["kind", "asker", "has", "not", "store", "on", "guard"]
def pool4 : List Str := ["m", "zoo", "keeper", "s", "st", "zz", "note"]
def names : List Str := pool1 ++ pool2 ++ pool3 ++ pool4
theorem names_fit : ∀ y ∈ names, Fit 8 y := by
  have h : ∀ y ∈ names, y.length ≤ 8 ∧ y.cps.toList.all (fun c => decide (c < 16 ^ 8)) = true := by decide +kernel
  intro y hy
  obtain ⟨h1, h2⟩ := h y hy
  exact ⟨h1, fun c hc => of_decide_eq_true (List.all_eq_true.mp h2 c hc)⟩
/-! ### the order of names -/
def Lt (a b : Str) : Prop := ltCps a.cps.toList b.cps.toList = true
abbrev Asc (ys : List Str) : Prop := ys.Pairwise Lt
theorem lt_trans {a b c : Str} (ha : a ∈ names) (hb : b ∈ names) (hc : c ∈ names) (h : Lt a b) (k : Lt b c) : Lt a c := by
  have all : (names.all fun a => names.all fun b => !ltCps a.cps.toList b.cps.toList || names.all fun c => !ltCps b.cps.toList c.cps.toList || ltCps a.cps.toList c.cps.toList) = true := by decide +kernel
  have q := List.all_eq_true.mp (List.all_eq_true.mp all a ha) b hb
  rw [h, Bool.not_true, Bool.false_or] at q
  have q := List.all_eq_true.mp q c hc
  rw [k, Bool.not_true, Bool.false_or] at q
  exact q
theorem lt_total {a b : Str} (ha : a ∈ names) (hb : b ∈ names) (ne : a ≠ b) (h : ltCps b.cps.toList a.cps.toList = false) : Lt a b := by
  have all : (names.all fun a => names.all fun b => decide (a = b) || ltCps a.cps.toList b.cps.toList || ltCps b.cps.toList a.cps.toList) = true := by decide +kernel
  have q := List.all_eq_true.mp (List.all_eq_true.mp all a ha) b hb
  rw [decide_eq_false ne, h, Bool.false_or, Bool.or_false] at q
  exact q
theorem asc_rising : ∀ (r : List Str) (p : Str), risingS p r = true → (p :: r).Nodup → (∀ y ∈ p :: r, y ∈ names) → (p :: r).Pairwise Lt
  | [], _, _, _, _ => List.pairwise_singleton _ _
  | x :: r, p, h, nd, hn => by
    have h : (!ltCps x.cps.toList p.cps.toList && risingS x r) = true := h
    obtain ⟨h1, h2⟩ := Bool.and_eq_true_iff.mp h
    have nd2 := (List.nodup_cons.mp nd).2
    have npx : p ≠ x := fun z => (List.nodup_cons.mp nd).1 (z ▸ List.mem_cons_self ..)
    have hp := hn p (List.mem_cons_self ..)
    have hx := hn x (List.mem_cons_of_mem _ (List.mem_cons_self ..))
    have lpx : Lt p x := lt_total hp hx npx (by simpa using h1)
    have ih := asc_rising r x h2 nd2 (fun y hy => hn y (List.mem_cons_of_mem _ hy))
    refine List.pairwise_cons.mpr ⟨fun y hy => ?_, ih⟩
    rcases List.mem_cons.mp hy with rfl | hy
    · exact lpx
    · exact lt_trans hp hx (hn y (List.mem_cons_of_mem _ (List.mem_cons_of_mem _ hy))) lpx ((List.pairwise_cons.mp ih).1 y hy)
theorem asc_sorted {ys : List Str} (h : sortedS ys = true) (nd : ys.Nodup) (hn : ∀ y ∈ ys, y ∈ names) : Asc ys := by
  cases ys with
  | nil => exact List.Pairwise.nil
  | cons p r => exact asc_rising r p h nd hn
def pick (pool : List Str) (r u k : Nat) : Str := pool.getD ((r + k * (1 + u)) % 7) Str.empty
theorem pick_nodup {pool : List Str} (hp : pool ∈ [pool1, pool2, pool3, pool4]) {r u m : Nat} (hr : r < 7) (hu : u < 6) (hm : m ≤ 7) : ((List.range m).map (pick pool r u)).Nodup := by
  have all : ([pool1, pool2, pool3, pool4].all fun p => (List.range 7).all fun r => (List.range 6).all fun u => decide ((List.range 7).map (pick p r u)).Nodup) = true := by decide +kernel
  have q := of_decide_eq_true (List.all_eq_true.mp (List.all_eq_true.mp (List.all_eq_true.mp all pool hp) r (List.mem_range.mpr hr)) u (List.mem_range.mpr hu))
  refine List.Nodup.sublist (List.Sublist.map _ ?_) q
  have e : List.range m = (List.range 7).take m := by rw [List.take_range, Nat.min_eq_left hm]
  rw [e]
  exact List.take_sublist _ _
theorem pick_at {pool : List Str} (hl : pool.length = 7) {r u i j : Nat} (hj : ((r : Int) + (0 + (i : Int)) * (1 + (u : Int))) % 7 = (j : Int)) (h : j < pool.length) : pool[j] = pick pool r u i := by
  have e : (r : Int) + (0 + (i : Int)) * (1 + (u : Int)) = ((r + i * (1 + u) : Nat) : Int) := by
    rw [Int.natCast_add, Int.natCast_mul, Int.natCast_add, Int.zero_add]
    rfl
  rw [e] at hj
  have z : (r + i * (1 + u)) % 7 = j := by omega
  unfold pick
  rw [z, List.getD_eq_getElem?_getD, List.getElem?_eq_getElem h]
  rfl
def spLab : Sp := fun vs H Q _ => ∃ (f a : Addr) (ns : List Int) (c : Nat) (m : Nat), vs = [.ref f, .int m] ∧ m ≤ 7 ∧ Fd f a ns H c ∧ c < 90000 ∧
  ∀ (ys : List Str) (q : Addr) (H' : Hp), H q = none → H' q = some (.lst (ys.map V.str)) → ys.length = m → (∀ y ∈ ys, y ∈ names) → Asc ys → Keep f H H' → Fd f a ns H' (c + 3) → Q (.ref q) H'
section
variable {P : Program} {w : World} {K : PySem.W.Frag} {mg : Str → Option Value} {base : Heap}
theorem ok_start {g : Addr} {fd : FuncData} (F : Fun K "_law_start" "_law_start" (topS 22) g fd) : FnOk P w K mg base CX0 1 g fd ["_law_script"] (spStart K) := by
  refine F.ok scStart (fun vs H Q E h => ?_) (fun cdv A outer s H vs Q E hr h => ?_)
  · obtain ⟨s, ns, rfl, _⟩ := h
    rfl
  · obtain ⟨s, ns, rfl, hS, hl, q⟩ := h
    refine ⟨_, pss_one (ps_ret (pe_disp (pps_cons pe_str (pe_slice sl_list (pv 0) po_none (po_some pe_int)) (pps_cons pe_str pe_int (pps_cons pe_str pe_int (pps_cons pe_str pe_int pps_nil)))) (by rfl) (by rfl) (fun z => by cases z) (by decide))), ?_⟩
    intro f nf
    refine ⟨.ref s, rfl, 63, rfl, s, _, rfl, (same_new nf).seq hS, fun a na => ?_⟩
    have nfa : f ≠ a := ne_of_none (upd_same (H := H) (a := f) (o := .dK [])) na
    have na0 : H a = none := (same_new nf).free na
    refine ⟨by rw [upd_ne nfa]; exact upd_same, [(kCells, .ref a), (kAt, .int 0), (kHeld, .int 0), (kCount, .int 0)], rfl, (show 4 ≤ 15 by decide), ?_⟩
    refine q f a ((ns.drop (HT.sIx (ns.map V.int).length 0 none)).take (HT.sIx (ns.map V.int).length (ns.map V.int).length (some 63) - HT.sIx (ns.map V.int).length 0 none)) _ nf ?_ ⟨⟨_, 0, 0, 0, upd_same, four_new a, by decide, by decide, by decide⟩, ?_, ?_⟩
    · exact putS (putS (same_new nf) na0) nf
    · rw [upd_ne nfa.symm, upd_same]
      unfold cutV
      rw [List.map_take, List.map_drop]
    · rw [List.length_take, List.length_drop]
      omega
theorem ok_any {g gD : Addr} {fd fdD : FuncData} (F : Fun K "_law_any" "_law_any" (topS 24) g fd) (FD : Fun K "_law_draw" "_law_draw" (topS 23) gD fdD) (bD : Binds K fdD ["_law_feed", "_law_many"] []) (mD : mg "_law_draw" = some (.ref gD)) (mi : mg "int" = none) (ml : mg "len" = none) :
    FnOk P w K mg base CX0 2 g fd ["_law_feed", "_law_some"] (spAny K) := by
  have GD : FnOk P w K mg base CX0 1 gD fdD ["_law_feed", "_law_many"] spDraw := ok_draw FD mi ml
  refine F.ok scAny (fun vs H Q E h => ?_) (fun cdv A outer s H vs Q E hr h => ?_)
  · obtain ⟨f, a, p, ns, c, xs, rfl, _⟩ := h
    rfl
  · obtain ⟨f, a, p, ns, c, xs, rfl, fd0, hc, hL, l0, l1, q⟩ := h
    refine ⟨_, pss_one (ps_ret (pe_ix ix_list (pv 1) (pe_call GD hr (by rfl) mD FD.kp bD .nil pass0 (pa_cons (pv 0) (pa_cons (pe_callB call_len_seq (by rfl) ml PySem.boot_len (pa_cons (pv 1) pa_nil)) pa_nil))) (fun _ _ => rfl))), ?_⟩
    refine ⟨.ref p, rfl, .ref f, rfl, .ref p, rfl, p, xs, rfl, .inl hL, f, a, ns, c, _, rfl, by omega, by omega, fd0, hc, fun r H' r0 r1 k fd1 => ?_⟩
    obtain ⟨j, rfl⟩ := Int.eq_ofNat_of_zero_le r0
    have hj : j < xs.length := by omega
    exact ⟨p, xs, _, xs[j], rfl, rfl, seqK fd0 k hL, at_of rfl (List.getElem?_eq_getElem hj), q _ H' (List.getElem_mem hj) k fd1⟩
theorem ok_lab {g gD gA : Addr} {fd fdD fdA : FuncData} (F : Fun K "_law_labels" "_law_labels" (topS 25) g fd) (FA : Fun K "_law_any" "_law_any" (topS 24) gA fdA) (bA : Binds K fdA ["_law_feed", "_law_some"] []) (mA : mg "_law_any" = some (.ref gA))
    (FD : Fun K "_law_draw" "_law_draw" (topS 23) gD fdD) (bD : Binds K fdD ["_law_feed", "_law_many"] []) (mD : mg "_law_draw" = some (.ref gD)) (mi : mg "int" = none) (ml : mg "len" = none) (mr : mg "range" = none) (mo : mg "sorted" = none) :
    FnOk P w K mg base CX0 3 g fd ["_law_feed", "_law_many"] spLab := by
  have GD : FnOk P w K mg base CX0 1 gD fdD ["_law_feed", "_law_many"] spDraw := ok_draw FD mi ml
  have GA : FnOk P w K mg base CX0 2 gA fdA ["_law_feed", "_law_some"] (spAny K) := ok_any FA FD bD mD mi ml
  refine F.ok scLab (fun vs H Q E h => ?_) (fun cdv A outer s H vs Q E hr h => ?_)
  · obtain ⟨f, a, ns, c, m, rfl, _⟩ := h
    rfl
  · obtain ⟨f, a, ns, c, m, rfl, hm, fd0, hc, q⟩ := h
    have hr1 : Room 1 _ := hr.mono (by decide)
    refine ⟨_, pss_cons (ps_set (i := 2) scLab.nd rfl (.inr rfl) (pe_call GA hr (by rfl) mA FA.kp bA .nil pass0 (pa_cons (pv 0) (pa_cons
        (pe_lst (pa_cons (pe_lst (pa_cons pe_str (pa_cons pe_str (pa_cons pe_str (pa_cons pe_str (pa_cons pe_str (pa_cons pe_str (pa_cons pe_str pa_nil))))))))
          (pa_cons (pe_lst (pa_cons pe_str (pa_cons pe_str (pa_cons pe_str (pa_cons pe_str (pa_cons pe_str (pa_cons pe_str (pa_cons pe_str pa_nil))))))))
          (pa_cons (pe_lst (pa_cons pe_str (pa_cons pe_str (pa_cons pe_str (pa_cons pe_str (pa_cons pe_str (pa_cons pe_str (pa_cons pe_str pa_nil))))))))
          (pa_cons (pe_lst (pa_cons pe_str (pa_cons pe_str (pa_cons pe_str (pa_cons pe_str (pa_cons pe_str (pa_cons pe_str (pa_cons pe_str pa_nil)))))))) pa_nil))))) pa_nil))))
      (pss_cons (ps_asg (pe_tup (pa_cons (pe_call GD hr1 (by rfl) mD FD.kp bD .nil pass0 (pa_cons (pv 0) (pa_cons pe_int pa_nil))) (pa_cons (pe_op op_add pe_int (pe_call GD hr1 (by rfl) mD FD.kp bD .nil pass0 (pa_cons (pv 0) (pa_cons pe_int pa_nil)))) pa_nil)))
        (pg_tup (by rfl) (pgs_cons (pg_name (i := 3) scLab.nd rfl (.inr rfl)) (pgs_cons (pg_name (i := 4) scLab.nd rfl (.inr rfl)) pgs_nil))))
      (pss_one (ps_ret (pe_callB cr_sortedS (by rfl) mo (by decide +kernel) (pa_cons (pe_lc (own := [("_law_k", 5)]) (g := gName 5) (by rfl) scLab.nd (pi_range1 (by rfl) mr (pa_cons (pv 1) pa_nil)) (blkOk_by (own := [("_law_k", 5)]) (N := nLab) (sc := defScope (topS 25)) (by decide +kernel))
        (fun _ _ _ _ _ => pg_name (i := 5) scLab.nd rfl (Or.inl rfl)) (fun _ _ _ _ _ => pts_nil) (fun _ _ _ _ _ => pe_ix (r := rIxL K) ix_list (pv 2) (pe_op op_mod (pe_callTy call_int1 (by rfl) mi boot_int (pa_cons (pe_op op_add (pv 3) (pe_op op_mul (pv 5) (pv 4))) pa_nil)) pe_int) (fun _ _ => rfl))) pa_nil))))), ?_⟩
    -- the pools
    refine ⟨.ref f, rfl, (show 7 ≤ sizeLine by decide), fun p1 n1 => ⟨(show 7 ≤ sizeLine by decide), fun p2 n2 => ⟨(show 7 ≤ sizeLine by decide), fun p3 n3 => ⟨(show 7 ≤ sizeLine by decide), fun p4 n4 => ⟨(show 4 ≤ sizeLine by decide), fun p0 n0 => ?_⟩⟩⟩⟩⟩
    have s1 : Same H (upd H p1 (.lst (pool1.map V.str))) := same_new n1
    have s2 : Same _ (upd (upd H p1 (.lst (pool1.map V.str))) p2 (.lst (pool2.map V.str))) := same_new n2
    have s3 : Same _ (upd (upd (upd H p1 (.lst (pool1.map V.str))) p2 (.lst (pool2.map V.str))) p3 (.lst (pool3.map V.str))) := same_new n3
    have s4 : Same _ (upd (upd (upd (upd H p1 (.lst (pool1.map V.str))) p2 (.lst (pool2.map V.str))) p3 (.lst (pool3.map V.str))) p4 (.lst (pool4.map V.str))) := same_new n4
    have s0 : Same _ (upd (upd (upd (upd (upd H p1 (.lst (pool1.map V.str))) p2 (.lst (pool2.map V.str))) p3 (.lst (pool3.map V.str))) p4 (.lst (pool4.map V.str))) p0 (.lst [.ref p1, .ref p2, .ref p3, .ref p4])) := same_new n0
    have e1 := s0 _ _ (s4 _ _ (s3 _ _ (s2 _ _ (upd_same (H := H) (a := p1) (o := .lst (pool1.map V.str))))))
    have e2 := s0 _ _ (s4 _ _ (s3 _ _ (upd_same (a := p2) (o := .lst (pool2.map V.str)))))
    have e3 := s0 _ _ (s4 _ _ (upd_same (a := p3) (o := .lst (pool3.map V.str))))
    have e4 := s0 _ _ (upd_same (a := p4) (o := .lst (pool4.map V.str)))
    have sm := (((s1.trans s2).trans s3).trans s4).trans s0
    have fd5 := fd0.same sm
    refine ⟨f, a, p0, ns, c, [.ref p1, .ref p2, .ref p3, .ref p4], rfl, fd5, by omega, .inl (.inl upd_same), (show 0 < 4 by decide), (show 4 ≤ 1000 by decide), fun x H6 hx k6 fd6 => ?_⟩
    obtain ⟨pp, pool, rfl, ep, lp, hp, hpool⟩ : ∃ (pp : Addr) (pool : List Str), x = .ref pp ∧ H6 pp = some (.lst (pool.map V.str)) ∧ pool.length = 7 ∧ (∀ y ∈ pool, y ∈ names) ∧ pool ∈ [pool1, pool2, pool3, pool4] := by
      simp only [List.mem_cons, List.not_mem_nil, or_false] at hx
      rcases hx with rfl | rfl | rfl | rfl
      · exact ⟨p1, pool1, rfl, k6 _ _ (fd_ne fd5 e1) e1, rfl, fun y hy => List.mem_append_left _ (List.mem_append_left _ (List.mem_append_left _ hy)), by simp⟩
      · exact ⟨p2, pool2, rfl, k6 _ _ (fd_ne fd5 e2) e2, rfl, fun y hy => List.mem_append_left _ (List.mem_append_left _ (List.mem_append_right _ hy)), by simp⟩
      · exact ⟨p3, pool3, rfl, k6 _ _ (fd_ne fd5 e3) e3, rfl, fun y hy => List.mem_append_left _ (List.mem_append_right _ hy), by simp⟩
      · exact ⟨p4, pool4, rfl, k6 _ _ (fd_ne fd5 e4) e4, rfl, fun y hy => List.mem_append_right _ hy, by simp⟩
    have kk6 : Keep f H H6 := (keep_same sm).trans k6
    clear e1 e2 e3 e4 s1 s2 s3 s4 s0 sm
    -- the two draws
    refine ⟨.ref f, rfl, f, a, ns, c + 1, 7, rfl, by decide, by decide, fd6, by omega, fun r H7 r0 r1 k7 fd7 => ?_⟩
    refine ⟨.ref f, rfl, f, a, ns, c + 2, 6, rfl, by decide, by decide, fd7, by omega, fun u H8 u0 u1 k8 fd8 => ⟨1, u, rfl, rfl, (show 2 ≤ sizeLine by decide), fun t nt => ?_⟩⟩
    refine ⟨t, _, rfl, .inl (.inl upd_same), rfl, _, _, rfl, _, _, rfl, rfl, ?_⟩
    have k9 : Keep f H (upd H8 t (.tup [V.int r, V.int (1 + u)])) := ((kk6.trans k7).trans k8).trans (keep_same (same_new nt))
    have fd9 := fd8.same (same_new (o := .tup [V.int r, V.int (1 + u)]) nt)
    have ep8 := k8 _ _ (fd_ne fd6 ep) (k7 _ _ (fd_ne fd6 ep) ep)
    have ep9 : (upd H8 t (.tup [V.int r, V.int (1 + u)])) pp = some (.lst (pool.map V.str)) := same_new nt _ _ ep8
    generalize upd H8 t (.tup [V.int r, V.int (1 + u)]) = H9 at k9 fd9 ep9 ⊢
    obtain ⟨rn, hrn⟩ := Int.eq_ofNat_of_zero_le r0
    obtain ⟨un, hun⟩ := Int.eq_ofNat_of_zero_le u0
    -- the labels
    refine ⟨_, rfl, m, rfl, by omega, by omega, fun D nD => ?_⟩
    refine lc_range (lo := 0) (n := (m : Int).toNat) (fun i G => Same H9 G ∧ ∃ ys : List Str, G D = some (.lst (ys.map V.str)) ∧ ys.length = i ∧ (∀ y ∈ ys, y ∈ names) ∧ ys = (List.range i).map (pick pool rn un)) ⟨same_new nD, [], upd_same, rfl, (fun y hy => by cases hy), rfl⟩ ?_ ?_
    · rintro i G hi ⟨sG, ys, hD, hl, hy, hys⟩
      rw [Int.toNat_natCast] at hi
      refine ⟨rfl, ?_⟩
      simp only [tYes, ↓reduceIte]
      have z0 := Int.emod_nonneg (r + (0 + (i : Int)) * (1 + u)) (show (7 : Int) ≠ 0 by decide)
      have z1 := Int.emod_lt_of_pos (r + (0 + (i : Int)) * (1 + u)) (show (0 : Int) < 7 by decide)
      obtain ⟨j, hj⟩ := Int.eq_ofNat_of_zero_le z0
      have hjl : j < pool.length := by omega
      refine ⟨_, rfl, _, rfl, _, rfl, _, rfl, _, _, rfl, rfl, .inl ⟨by omega, by omega⟩, _, _, rfl, rfl, .inl ⟨_, rfl, _, _, rfl, rfl, (show (0 : Int) < 7 by decide), pp, pool.map V.str, _, .str pool[j], rfl, rfl, .inl (.inl (sG _ _ ep9)), at_of hj ?_, ys.map V.str, hD, ?_, ?_, ys ++ [pool[j]], ?_, ?_, ?_, ?_⟩⟩
      · rw [List.getElem?_map, List.getElem?_eq_getElem hjl]
        rfl
      · rw [List.length_map]
        exact small' (by omega)
      · exact putS sG nD
      · rw [upd_same, List.map_append]
        rfl
      · rw [List.length_append, hl]
        rfl
      · intro y hy'
        rcases List.mem_append.mp hy' with h | h
        · exact hy y h
        · rw [List.mem_singleton.mp h]
          exact hp _ (List.getElem_mem hjl)
      · rw [List.range_succ, List.map_append, ← hys, List.map_singleton]
        rw [hrn, hun] at hj
        rw [pick_at lp hj hjl]
    · rintro G ⟨sG, ys, hD, hl, hy, hys⟩
      rw [Int.toNat_natCast] at hl hys
      have ndy : ys.Nodup := by
        rw [hys]
        exact pick_nodup hpool (by omega) (by omega) hm
      refine ⟨D, ys, rfl, .inl (.inl hD), by omega, fun zs p perm srt np => ?_⟩
      have sp := putS (o := .lst (zs.map V.str)) sG (sG.free np)
      refine q zs p _ ?_ upd_same (by rw [perm.length_eq, hl]) (fun y hz => hy y (perm.mem_iff.mp hz)) (asc_sorted srt (perm.nodup_iff.mpr ndy) (fun y hz => hy y (perm.mem_iff.mp hz))) (k9.trans (keep_same sp)) ((fd9.same sp).more (by omega))
      cases hpH : H p with
      | none => rfl
      | some o =>
        by_cases hpf : p = f
        · subst hpf
          exact absurd rfl ((fd9.same sG).free np).1
        · have := sG _ _ (k9 _ _ hpf hpH)
          rw [np] at this
          cases this
end
end Kn


namespace Kn
open PySem PySem.Spec PyProof.Rows L2
abbrev nPg : List Str := ["_law_feed", "_law_most", "_law_labels_here", "_law_asks", "_law_entries", "_law_label", "_law_holds", "_law_row", "_law_mate"]
theorem scPg : FnScope nPg ["_law_feed", "_law_most"] (defScope (topS 26)) := ⟨rfl, rfl, rfl, by decide +kernel, rfl, by decide +kernel, by decide +kernel⟩
def fees9 : List Int := [1, 1, 1, 2, 3, 9, 10, 12, 10 ^ (59 : Int).toNat]
def feesAll : List Int := [1, 2, 3, 9, 10, 12, 99, 100, 12345678901, 10 ^ (59 : Int).toNat, 10 ^ (60 : Int).toNat - 1]
theorem fees9_all : ∀ i ∈ fees9, i ∈ feesAll := by decide +kernel
theorem feesAll_ok : ∀ i ∈ feesAll, i.natAbs < 10 ^ 60 := by decide +kernel
def Ent.nice (e : Ent) : Prop := e.name ∈ names ∧ e.fee ∈ feesAll ∧ (∀ s ∈ e.row, s ∈ names) ∧ Asc e.row
def spPg (K : PySem.W.Frag) : Sp := fun vs H Q _ => ∃ (f a : Addr) (ns : List Int) (c : Nat) (m : Int), vs = [.ref f, .int m] ∧ 0 < m ∧ m ≤ 5 ∧ Fd f a ns H c ∧ c < 80000 ∧
  ∀ (v : V) (g : Pg) (H' : Hp), PgAt K H' v g → g.ok → (∀ e ∈ g.es, e.nice) → Asc (g.es.map (·.name)) → (∀ e ∈ g.es, (e.has = true → e.name ≠ g.asks) ∧ e.row.Sublist (g.es.map (·.name))) → g.asks ∈ names → 0 < g.es.length → g.es.length ≤ 5 → Keep f H H' → Fd f a ns H' (c + 60) → Q v H'
theorem ne_free {f a p : Addr} {ns : List Int} {H G : Hp} {c : Nat} (d : Fd f a ns G c) (k : Keep f H G) (n : G p = none) : H p = none := by
  cases e : H p with
  | none => rfl
  | some o =>
    by_cases hpf : p = f
    · subst hpf
      exact absurd rfl (d.free n).1
    · have := k _ _ hpf e
      rw [n] at this
      cases this
theorem fees9_ok : ∀ i ∈ fees9, i.natAbs < 10 ^ 60 := by decide +kernel
section
variable {P : Program} {w : World} {K : PySem.W.Frag} {mg : Str → Option Value} {base : Heap}
theorem ok_pg {g gD gA gL : Addr} {fd fdD fdA fdL : FuncData} (F : Fun K "_law_page" "_law_page" (topS 26) g fd)
    (FL : Fun K "_law_labels" "_law_labels" (topS 25) gL fdL) (bL : Binds K fdL ["_law_feed", "_law_many"] []) (mL : mg "_law_labels" = some (.ref gL))
    (FA : Fun K "_law_any" "_law_any" (topS 24) gA fdA) (bA : Binds K fdA ["_law_feed", "_law_some"] []) (mA : mg "_law_any" = some (.ref gA))
    (FD : Fun K "_law_draw" "_law_draw" (topS 23) gD fdD) (bD : Binds K fdD ["_law_feed", "_law_many"] []) (mD : mg "_law_draw" = some (.ref gD)) (mi : mg "int" = none) (ml : mg "len" = none) (mr : mg "range" = none) (mo : mg "sorted" = none) (mt : mg "tuple" = none) :
    FnOk P w K mg base CX0 4 g fd ["_law_feed", "_law_most"] (spPg K) := by
  have GD : FnOk P w K mg base CX0 1 gD fdD ["_law_feed", "_law_many"] spDraw := ok_draw FD mi ml
  have GA : FnOk P w K mg base CX0 2 gA fdA ["_law_feed", "_law_some"] (spAny K) := ok_any FA FD bD mD mi ml
  have GL : FnOk P w K mg base CX0 3 gL fdL ["_law_feed", "_law_many"] spLab := ok_lab FL FA bA mA FD bD mD mi ml mr mo
  refine F.ok scPg (fun vs H Q E h => ?_) (fun cdv A outer s H vs Q E hr h => ?_)
  · obtain ⟨f, a, ns, c, m, rfl, _⟩ := h
    rfl
  · obtain ⟨f, a, ns, c, m, rfl, m0, m1, fd0, hc, q⟩ := h
    have hr1 : Room 1 _ := hr.mono (by decide)
    have hr2 : Room 2 _ := hr.mono (by decide)
    refine ⟨_, pss_cons (ps_set (i := 2) scPg.nd rfl (.inl rfl) (pe_call GL hr (by rfl) mL FL.kp bL .nil pass0 (pa_cons (pv 0) (pa_cons (pe_op op_add pe_int (pe_call GD hr1 (by rfl) mD FD.kp bD .nil pass0 (pa_cons (pv 0) (pa_cons (pv 1) pa_nil)))) pa_nil))))
      (pss_cons (ps_par (i := 3) (j := 4) (by rfl) scPg.nd rfl rfl (by decide) rfl rfl (pa_cons (pe_call GA hr2 (by rfl) mA FA.kp bA .nil pass0 (pa_cons (pv 0) (pa_cons (pv 2) pa_nil))) (pa_cons (pe_lst pa_nil) pa_nil)) (by rfl))
      (pss_cons (ps_for PassesOwn.never rfl (pi_list (pv 2)) (pg_name (i := 5) scPg.nd rfl (.inl rfl))
        (pss_cons (ps_set (i := 6) scPg.nd rfl (.inl rfl) (pe_and (pe_cmpR op_eq (pe_call GD hr1 (by rfl) mD FD.kp bD .nil pass0 (pa_cons (pv 0) (pa_cons pe_int pa_nil))) pe_int (nomark _)) (pe_one (pe_cmpR op_ne (pv 5) (pv 3) (nomark _)))))
        (pss_cons (ps_setLc (i := 7) (own := [("_law_mate", 8)]) (g := gName 8) (by rfl) scPg.nd rfl rfl (sw_true rfl rfl rfl (by decide +kernel)) (pi_list (pv 2)) (blkOk_by (own := [("_law_mate", 8)]) (N := nPg) (sc := defScope (topS 26)) (by decide +kernel))
          (fun _ _ _ _ _ => pg_name (i := 8) scPg.nd rfl (Or.inl rfl)) (fun _ _ _ _ _ => pts_one (pt_cmpR op_eq (pe_call GD hr1 (by rfl) mD FD.kp bD .nil pass0 (pa_cons (pv 0) (pa_cons pe_int pa_nil))) pe_int (nomark _))) (fun _ _ _ _ _ => pv 8))
        (pss_one (ps_expr (pe_bm PySem.F.plainAttrs_list PySem.F.slot_list_append PySem.F.type_list_append mt_append (pv 4) (pa_cons (pe_tup (pa_cons (pv 5)
          (pa_cons (pe_call GA hr2 (by rfl) mA FA.kp bA .nil pass0 (pa_cons (pv 0) (pa_cons (pe_lst (pa_cons pe_int (pa_cons pe_int (pa_cons pe_int (pa_cons pe_int (pa_cons pe_int (pa_cons pe_int (pa_cons pe_int (pa_cons pe_int (pa_cons (pe_op op_pow pe_int pe_int) pa_nil)))))))))) pa_nil)))
          (pa_cons (pv 6) (pa_cons (pe_callTy call_tuple_of (by rfl) mt boot_tuple (pa_cons (pv 7) pa_nil)) pa_nil))))) pa_nil)))))))
      (pss_one (ps_ret (pe_tup (pa_cons (pe_callTy call_tuple_of (by rfl) mt boot_tuple (pa_cons (pv 4) pa_nil)) (pa_cons (pv 3) pa_nil))))))), ?_⟩
    -- the labels
    refine ⟨.ref f, rfl, .ref f, rfl, _, rfl, f, a, ns, c, m, rfl, m0, by omega, fd0, by omega, fun r H1 r0 r1 k1 fd1 => ⟨1, r, rfl, rfl, ?_⟩⟩
    obtain ⟨j, rfl⟩ := Int.eq_ofNat_of_zero_le r0
    refine ⟨f, a, ns, c + 1, 1 + j, ?_, by omega, fd1, by omega, fun ys L H2 nL eL lL hL ascL k2 fd2 => ?_⟩
    · show [V.ref f, V.int (1 + (j : Int))] = [V.ref f, V.int ((1 + j : Nat) : Int)]
      rw [Int.natCast_add]
      rfl
    -- who asks
    refine ⟨.ref f, rfl, .ref L, rfl, f, a, L, ns, c + 4, ys.map V.str, rfl, fd2, by omega, .inl (.inl eL), by rw [List.length_map]; omega, by rw [List.length_map]; omega, fun x H3 hx k3 fd3 => ⟨Nat.zero_le _, fun En nEn => ?_⟩⟩
    obtain ⟨asks, hasks, rfl⟩ := List.mem_map.mp hx
    refine ⟨_, _, rfl, ?_⟩
    have kA : Keep f H (upd H3 En (.lst [])) := ((k1.trans k2).trans k3).trans (keep_same (same_new nEn))
    have fdA : Fd f a ns (upd H3 En (.lst [])) (c + 5) := fd3.same (same_new nEn)
    have eL3 := k3 _ _ (fd_ne fd2 eL) eL
    have eLA : (upd H3 En (.lst [])) L = some (.lst (ys.map V.str)) := same_new nEn _ _ eL3
    have nEL : En ≠ L := (ne_of_none eL3 nEn).symm
    have eEn : (upd H3 En (.lst [])) En = some (.lst []) := upd_same
    have nfa := fd3.free nEn
    have n0E : H En = none := ne_free fd3 ((k1.trans k2).trans k3) nEn
    generalize upd H3 En (.lst []) = H4 at kA fdA eLA eEn ⊢
    -- the loop
    refine ⟨_, rfl, L, rfl, ⟨_, .inl (.inl eLA)⟩, for_list (K := K) (a := L) (xs := ys.map V.str) (fun i σ G => ∃ y5 y6 y7 y8, σ = [some (.ref f), some (.int m), some (.ref L), some (.str asks), some (.ref En), y5, y6, y7, y8] ∧ Keep f H G ∧ Fd f a ns G (c + 5 + 7 * i) ∧
      G L = some (.lst (ys.map V.str)) ∧ ∃ ws es, G En = some (.lst ws) ∧ EntsAt K G ws es ∧ es.length = i ∧ (∀ e ∈ es, e.ok ∧ e.nice) ∧ es.map (·.name) = ys.take i ∧ ∀ e ∈ es, (e.has = true → e.name ≠ asks) ∧ e.row.Sublist ys)
      ⟨none, none, none, none, rfl, kA, fdA, eLA, [], [], eEn, .nil, rfl, (fun e he => by cases he), rfl, (fun e he => by cases he)⟩ (fun i σ G _ ⟨_, _, _, _, _, _, _, h, _⟩ => .inl (.inl h)) ?_ ?_⟩
    · rintro i x σ G hx ⟨y5, y6, y7, y8, rfl, kG, fdG, eLG, ws, es, eEG, hE, lE, okE, nE, aE⟩
      have hi : i < (ys.map V.str).length := (List.getElem?_eq_some_iff.mp hx).1
      rw [List.length_map] at hi
      obtain ⟨y, hy, rfl⟩ := map_get hx
      have hyn := hL y (List.mem_of_getElem? hy)
      refine ⟨.ref f, rfl, f, a, ns, _, 3, rfl, by decide, by decide, fdG, by omega, fun r5 G5 _ _ k5 fd5 => ⟨rfl, _, rfl, ite2 (fun _ => ?_) (fun _ => ?_)⟩⟩
      case' refine_1 =>
        refine ⟨_, rfl, _, rfl, rfl, ?_⟩
        have hne : (!decide (V.str y = V.str asks)) = true → y ≠ asks := fun z w => by
          rw [decide_eq_true (congrArg V.str w)] at z
          cases z
        generalize (!decide (V.str y = V.str asks)) = hb at hne ⊢
      case' refine_2 =>
        show Ends.nx _ (List.set _ 6 (some (V.bl (false && true)))) _
        have hne : (false && true) = true → y ≠ asks := fun z => by cases z
        generalize (false && true) = hb at hne ⊢
      all_goals
        have e5L := k5 _ _ (fd_ne fdG eLG) eLG
        have e5E := k5 _ _ (fd_ne fdG eEG) eEG
        have hE5 := hE.ts (ts_fd fdG k5)
        dsimp only
        refine seq_asg ?_
        refine ⟨.ref L, rfl, L, rfl, ⟨_, .inl (.inl e5L)⟩, fun D nD => ?_⟩
        have nDf := fd5.free nD
        have nDE : En ≠ D := ne_of_none e5E nD
        refine lc_list (K := K) (a := L) (xs := ys.map V.str) (fun k G6 => Keep f G5 G6 ∧ Fd f a ns G6 (c + 6 + 7 * i + k) ∧ ∃ zs : List Str, G6 D = some (.lst (zs.map V.str)) ∧ zs.Sublist (ys.take k))
          ⟨keep_same (same_new nD), (fd5.same (same_new nD)).more (by omega), [], upd_same, List.nil_sublist _⟩ (fun k G6 _ h => .inl (.inl (h.1 _ _ (fd_ne fd5 e5L) e5L))) ?_ ?_
        · rintro k v G6 hv ⟨k6, fd6, zs, eD, sz⟩
          have lz : zs.length ≤ k := Nat.le_trans sz.length_le (by rw [List.length_take]; exact Nat.min_le_left _ _)
          have hk : k < (ys.map V.str).length := (List.getElem?_eq_some_iff.mp hv).1
          rw [List.length_map] at hk
          obtain ⟨z, hzy, rfl⟩ := map_get hv
          refine ⟨rfl, ?_⟩
          refine ⟨.ref f, rfl, f, a, ns, _, 3, rfl, by decide, by decide, fd6, by omega, fun r7 G7 _ _ k7 fd7 => ⟨rfl, _, rfl, ?_⟩⟩
          have e7D := k7 _ _ (fd_ne fd6 eD) eD
          have k57 : Keep f G5 G7 := k6.trans k7
          refine ite2 (fun _ => ?_) (fun _ => ?_)
          · refine ⟨_, rfl, zs.map V.str, e7D, by rw [List.length_map]; exact small' (by omega), fun b o nb hb => ?_, (fd7.own nDf.1 nDf.2).more (by omega), zs ++ [z], ?_, ?_⟩
            · rw [upd_ne (ne_of_none hb nD)]
              exact k57 b o nb hb
            · rw [upd_same, List.map_append]
              rfl
            · rw [List.take_add_one, hzy]
              exact sz.append (List.Sublist.refl _)
          · refine ⟨k57, fd7.more (by omega), zs, e7D, ?_⟩
            rw [List.take_add_one]
            exact sz.trans (List.sublist_append_left _ _)
        · rintro G6 ⟨k6, fd6, zs, eD, sz⟩
          rw [List.length_map] at fd6 sz
          rw [List.take_length] at sz
          have lz : zs.length ≤ ys.length := sz.length_le
          have hz : ∀ z ∈ zs, z ∈ names := fun z h => hL z (sz.subset h)
          have e6E := k6 _ _ (fd_ne fd5 e5E) e5E
          have e6L := k6 _ _ (fd_ne fd5 e5L) e5L
          have hE6 := hE5.ts (ts_fd fd5 k6)
          -- entries.append
          refine ⟨.ref En, rfl, .inl ⟨rfl, _, .inl (.inl e6E)⟩, _, rfl, .ref f, rfl, 10, 59, rfl, rfl, ⟨by decide, by decide, by decide⟩, (show 9 ≤ sizeLine by decide), fun pl npl => ?_⟩
          refine ⟨f, a, pl, ns, c + 11 + 7 * i, fees9.map V.int, rfl, (fd6.same (same_new npl)).more (by omega), by omega, .inl (.inl upd_same), (show 0 < 9 by decide), (show 9 ≤ 1000 by decide), fun x7 G7 hx7 k7 fd7 => ?_⟩
          obtain ⟨fee, hfee, rfl⟩ := List.mem_map.mp hx7
          have fd6p := fd6.same (same_new (o := .lst (fees9.map V.int)) npl)
          have e6pE := same_new (o := .lst (fees9.map V.int)) npl _ _ e6E
          have e7E := k7 _ _ (fd_ne fd6p e6pE) e6pE
          have e6pL := same_new (o := .lst (fees9.map V.int)) npl _ _ e6L
          have e7L := k7 _ _ (fd_ne fd6p e6pL) e6pL
          have e6pD := same_new (o := .lst (fees9.map V.int)) npl _ _ eD
          have e7D := k7 _ _ (fd_ne fd6p e6pD) e6pD
          have hE7 := hE6.ts ((ts_same (same_new npl)).trans (ts_fd fd6p k7))
          have kk7 : Keep f H G7 := (((kG.trans k5).trans k6).trans (keep_same (same_new npl))).trans k7
          refine ⟨_, rfl, _, rfl, D, zs.map V.str, rfl, .inl ⟨.inl (.inl e7D), fun tr ntr => ⟨(show 4 ≤ sizeLine by decide), fun tp ntp => ?_⟩⟩⟩
          have sR : Same G7 (upd G7 tr (.tup (zs.map V.str))) := same_new ntr
          have sP : Same _ (upd (upd G7 tr (.tup (zs.map V.str))) tp (.tup [.str y, .int fee, .bl hb, .ref tr])) := same_new ntp
          have eR := sP _ _ (upd_same (H := G7) (a := tr) (o := .tup (zs.map V.str)))
          have eP : (upd (upd G7 tr (.tup (zs.map V.str))) tp (.tup [.str y, .int fee, .bl hb, .ref tr])) tp = some (.tup [.str y, .int fee, .bl hb, .ref tr]) := upd_same
          have sm := sR.trans sP
          generalize upd (upd G7 tr (.tup (zs.map V.str))) tp (.tup [.str y, .int fee, .bl hb, .ref tr]) = G8 at sm eR eP ⊢
          have e8E := sm _ _ e7E
          have e8L := sm _ _ e7L
          refine ⟨En, ws, _, rfl, rfl, e8E, by rw [hE.len]; exact small' (by omega), ?_⟩
          refine ⟨_, _, _, _, rfl, fun b o nb hb' => ?_, ((fd7.same sm).own nfa.1 nfa.2).more (by omega), ?_, ws ++ [.ref tp], es ++ [⟨y, fee, hb, zs⟩], upd_same, ?_, ?_, ?_, ?_, ?_⟩
          · rw [upd_ne (ne_of_none hb' n0E)]
            exact sm _ _ (kk7 b o nb hb')
          · rw [upd_ne nEL.symm]
            exact e8L
          · refine (hE7.ts ((ts_same sm).trans (ts_lst e8E))).append (.cons ⟨tp, tr, rfl, ?_, ?_⟩ .nil)
            · exact tupT (ts_lst e8E) (.inl (.inl eP))
            · exact tupT (ts_lst e8E) (.inl (.inl eR))
          · rw [List.length_append, lE]
            rfl
          · intro e he
            rcases List.mem_append.mp he with h | h
            · exact okE e h
            · rw [List.mem_singleton.mp h]
              exact ⟨⟨names_fit y hyn, fees9_ok fee hfee, by show zs.length ≤ 8; omega, fun z hz' => names_fit z (hz z hz')⟩, hyn, fees9_all fee hfee, hz, ascL.sublist sz⟩
          · rw [List.map_append, nE, List.take_add_one, hy]
            rfl
          · intro e he
            rcases List.mem_append.mp he with h | h
            · exact aE e h
            · rw [List.mem_singleton.mp h]
              exact ⟨hne, sz⟩
    · rintro σ G ⟨y5, y6, y7, y8, rfl, kG, fdG, eLG, ws, es, eEG, hE, lE, okE, nE, aE⟩
      rw [List.length_map] at lE fdG
      refine ⟨.ref En, rfl, En, ws, rfl, .inl ⟨.inl (.inl eEG), fun te nte => ⟨_, rfl, (show 2 ≤ sizeLine by decide), fun tp ntp => ?_⟩⟩⟩
      have sR : Same G (upd G te (.tup ws)) := same_new nte
      have sP : Same _ (upd (upd G te (.tup ws)) tp (.tup [.ref te, .str asks])) := same_new ntp
      have sm := sR.trans sP
      exact q (.ref tp) ⟨es, asks⟩ _ ⟨tp, te, ws, rfl, .inl (.inl upd_same), .inl (.inl (sP _ _ upd_same)), hE.same sm⟩ ⟨by show es.length ≤ 12; omega, (fun e he => (okE e he).1), names_fit asks (hL asks hasks)⟩ (fun e he => (okE e he).2) (by show Asc (es.map (·.name)); rw [nE, List.length_map, List.take_length]; exact ascL) (fun e he => ⟨(aE e he).1, by show e.row.Sublist (es.map (·.name)); rw [nE, List.length_map, List.take_length]; exact (aE e he).2⟩) (hL asks hasks) (by show 0 < es.length; omega) (by show es.length ≤ 5; omega) (kG.trans (keep_same sm)) ((fdG.same sm).more (by omega))
end
end Kn


/-! Kn: a def that gets the error which is being handled. -/
namespace Kn
open PySem PySem.Spec PyProof.Rows L2
abbrev ESp := Addr → Value → Option Addr → Sp
section
variable (P : Program) (w : World) (K : PySem.W.Frag) (mg : Str → Option Value) (base : Heap)
structure Handed (k : Nat) (f : Addr) (fd : FuncData) (ps : List Str) (sp : ESp) : Prop where
  many : ∀ a c d vs H Q E, sp a c d vs H Q E → vs.length = ps.length
  goes : ∀ (A : Around) (fr : List Env) (s : Shared) (H : Hp) (g : Args) (us : List Value) (vs : List V) (Q : VK) (E : XK) (p : Addr × Obj) (c : Value) (d : Option Addr), L2H.RoomH k A → A.handled = some (.ref p.1) → Zc c d p.2 → (∃ v, p.2.data = .fields v) →
    L2H.PinOk fr H s p → Env0 P w K mg base A fr s H → BindsTo s fd g (ps.zip us) → Vals vs us → sp p.1 c d vs H Q E → codeAny (model P w) A (.call (.ref f) g) (CR CX0 fr P w H s Q E) s
end
section
variable {P : Program} {w : World} {K : PySem.W.Frag} {mg : Str → Option Value} {base : Heap} {k : Nat} {f : Addr} {fd : FuncData} {ps N : List Str} {sp : ESp} {x qual : Str} {st : Stmt}
theorem mark_same {A : Around} {env : Env} {a : Addr} (h : A.handled = some (.ref a)) : (A.deeper env).mark (some (.ref a)) = A.deeper env := by
  obtain ⟨h1, d, fr, g, u⟩ := A
  cases h
  rfl
theorem Handed.body (F : Fun K x qual st f fd) (S : FnScope N ps (defScope st)) (many : ∀ a c d vs H Q E, sp a c d vs H Q E → vs.length = ps.length)
    (hb : ∀ (cdv : Value) (A : Around) (fr : List Env) (s : Shared) (H : Hp) (vs : List V) (Q : VK) (E : XK) (p : Addr × Obj) (c : Value) (d : Option Addr), Zc c d p.2 → (∃ v, p.2.data = .fields v) → L2H.RoomH k (A.deeper (envOfC qual (defScope st) s.heap.objs.size f cdv)) → sp p.1 c d vs H Q E →
      ∃ t, PSs ((cxOf CX0 P w K mg base N qual (defScope st) f cdv A fr s H E).suite p.1 [(p.1, p.2)]) (defBody st) t ∧ t { nx := fun _ H' => Q .non H', rt := Q } (start N vs) H) :
    Handed P w K mg base (k + 1) f fd ps sp := by
  obtain ⟨oc, od, kV, doc, pm, an, cdv, ct, osl, rfl, look, cdOk⟩ := F.ex
  refine ⟨many, fun A fr s H g us vs Q E p c d room hot hz hf pin z bound rv told => ?_⟩
  have held : ∀ b o, base.get? b = some o → s.heap.get? b = some o := fun b o y => (z.bs b o y).1
  have KS : K.In s.heap := z.mod.kin.keeps held
  have parL : ∀ y ∈ ps.zip us, (defScope st).names.lookup y.1 = some .local ∨ ((defScope st).names.lookup y.1 = some .cell ∧ ((cellsFrom (s.heap.objs.size + 1) (defScope st).names []).lookup y.1).isSome = true) := by
    rintro ⟨n, v⟩ hy
    cases S.par n (List.of_mem_zip hy).1 with
    | inl q => exact .inl q
    | inr q => exact .inr ⟨q, PySem.W.cellsFrom_some _ _ _ (.inl q)⟩
  refine codeAny_call_function room.depth (KS _ _ look) rfl S.co S.gen rfl (PySem.W.codeRec_of KS cdOk) (bound _ _ _ _ ?_)
  refine wpAny_newFunctionEnv_cells S.kind parL ?_
  rintro env rfl s1 y
  refine ⟨(z.mod.nolimit.keeps held).keeps y.toInCall.keep, codeAny_func ?_⟩
  obtain ⟨t, ht, ends⟩ := hb cdv A fr s H vs Q E p c d hz hf (room.deeper _) told
  have I := L2H.inv_startH (CX := CX0) (P := P) (mg := mg) (E := E) S pin z (many _ _ _ _ _ _ _ told) rv y
  have ec : (cxOf CX0 P w K mg base N qual (defScope st) f cdv A fr s H E).suite p.1 [(p.1, p.2)] = (L2H.cxH CX0 P w K mg base N qual (defScope st) f cdv A fr s H E p).nox := by
    have em := mark_same (env := envOfC qual (defScope st) s.heap.objs.size f cdv) hot
    show ({ cxOf CX0 P w K mg base N qual (defScope st) f cdv A fr s H E with A := (A.deeper (envOfC qual (defScope st) s.heap.objs.size f cdv)).mark (some (.ref p.1)), calm := false, pn := [(p.1, p.2)], xe := fun _ _ => False } : Cx) = _
    rw [em]
    rfl
  rw [ec] at ht
  refine wpAny_mono (ht.nox.run [] s1 (start N vs) H _ I ends) ?_ (fun _ _ q => q)
  intro fl s2 hs
  cases fl with
  | ret u => obtain ⟨v, σ2, H2, J, r2, q⟩ := hs; exact ⟨v, H2, J.os, J.bare, J.base, J.hok, r2, q⟩
  | next => obtain ⟨σ2, H2, J, q⟩ := hs; exact ⟨V.non, H2, J.os, J.bare, J.base, J.hok, rfl, q⟩
  | brk => obtain ⟨_, _, _, q⟩ := hs; exact q.elim
  | cont => obtain ⟨_, _, _, q⟩ := hs; exact q.elim
end
section
variable {X : Cx} {k : Nat} {f : Addr} {fd : FuncData} {ps : List Str} {sp : ESp} {x : Str} {p pos : Pos} {e : Expr} {es : List Expr} {t : TA} {a : Addr} {oe : Obj} {c : Value} {d : Option Addr} {pn : List (Addr × Obj)}
/-- f(err, ..) within the suite that handles err -/
theorem pe_hand (F : Handed X.prog X.w X.K X.mg X.base k f fd ps sp) (hr : L2H.RoomH k X.A) (hz : Zc c d oe) (hf : ∃ v, oe.data = .fields v) (hg : Gl X x) (hm : X.mg x = some (.ref f)) (hk : PySem.W.keepIn X.K (.ref f) = true) (hb : Binds X.K fd ps [])
    (ha : PA (X.suite a ((a, oe) :: pn)) (e :: es) t) (hdb : (x == ("__debug__" : Str)) = false := by decide) (he : starEach (e :: es) X.env = (false, eval e X.env) :: starEach es X.env := by rfl) (hpl : (backTo pos (starEach es X.env)).any (·.1) = false := by rfl) :
    PE (X.suite a ((a, oe) :: pn)) (.Call (.Name x p) (e :: es) [] pos) (tCall (sp a c d) [] E0 t) := by
  refine ⟨fun pins s σ H Q I told => wpAny_Call_Name_kw (ld_glob I hg hm ?_ hdb)⟩
  refine PySem.W.callWith_K (h₀ := X.base) I.ok.mod.kin hk (thn (ha.run pos pins s σ H _ I told) ?_) he hpl
  rintro us s1 ⟨vs, H1, I1, rv, q⟩
  refine ⟨I1.kIn, ?_⟩
  have q : sp a c d (vs ++ []) H1 Q E0 := q
  rw [List.append_nil] at q
  have hl : (us ++ []).length = ps.length := by rw [List.append_nil, ← rv.length]; exact F.many _ _ _ _ _ _ _ q
  have hb1 := hb s1 us I1.kIn hl
  rw [List.append_nil] at hb1
  have at_ := I1.pin (a, oe) (List.mem_append_left _ List.mem_cons_self)
  have pin : L2H.PinOk X.stack H1 s1 (a, oe) := by
    refine ⟨at_.1, at_.2.1, fun hm => ?_, at_.2.2.2.2⟩
    rcases List.mem_cons.mp (I1.stkSub a hm) with z | z
    · exact at_.2.2.1 z
    · exact at_.2.2.2.1 z
  refine wpAny_call (codeAny_mono (F.goes (X.A.mark (some (.ref a))) X.stack s1 H1 ⟨us, []⟩ us vs Q E0 (a, oe) c d ⟨hr.dp, hr.un⟩ rfl hz hf pin I1.env0 hb1 rv q) ?_)
  intro r s2 out
  cases r with
  | error _ => exact False.elim out
  | ok fl =>
    cases fl with
    | ret u => exact I1.after out
    | next => exact False.elim out
    | brk => exact False.elim out
    | cont => exact False.elim out
end
end Kn


/-! Kn: isinstance of a handled error with fields; how many of a list's bools are k. -/
namespace Kn
open PySem PySem.Spec PyProof.Rows L2
/-- what isinstance reads off an error's class -/
structure IsC (K : PySem.W.Frag) (D : Addr) : Prop where
  c : (PySem.W.clsIn K D).isSome = true
  ga : PySem.W.findIn K (.ref D) "__getattribute__" = some (some (.builtin "BaseException.__getattribute__"))
  gg : PySem.W.findIn K (.ref D) "__getattr__" = some none
  ex : PySem.W.subIn K (.ref D) (.type "BaseException") = some true
  ha : PySem.W.findIn K (.ref D) "__class__" = some (some (.builtin "object.__class__"))
  hn : PySem.W.specialIn K (.builtin "object.__class__") "__get__" = some (some (.builtin "getset_descriptor.__get__"))
  ht : PySem.W.takesIn K (.builtin "object.__class__") = some true
  hm : PySem.W.mroIn K D (.type "object") = some true
def rIsF (K : PySem.W.Frag) (D : Addr) (d : Option Addr) (a : Addr) : List V → Hp → VK → Prop := fun xs H Q =>
  ∃ (c : V) (cv : Value) (b : Bool) (dd : Addr) (fs : List (Str × V)), xs = [.ref a, c] ∧ (∀ u, RelV c u → u = cv) ∧ PySem.W.kitOne K (.ref D) cv = some b ∧ d = some dd ∧ H dd = some (.xd fs) ∧ Q (.bl b) H
section
variable {X : Cx}
theorem call_isF {a D : Addr} {d : Option Addr} {oe : Obj} {pn : List (Addr × Obj)} (C : IsC X.K D) (hz : Zc (.ref D) d oe) (hf : ∃ v, oe.data = .fields v) : CallR (X.suite a ((a, oe) :: pn)) (.builtin "isinstance") (rIsF X.K D d a) := by
  rintro pins s σ H xs us Q I rv ⟨c, cv, b, dd, fs, rfl, only, kit, rfl, hd, q⟩
  cases rv with
  | cons r1 rest =>
    cases rest with
    | cons r2 rest =>
      cases rest
      cases r1
      cases only _ r2
      have at_ := (I.pin (a, oe) (List.mem_append_left _ List.mem_cons_self)).1
      obtain ⟨v, dv⟩ := hf
      obtain ⟨m, nsd, _⟩ := (I.hok dd _ hd : ∃ m, s.heap.Ns1 dd m ∧ ∀ f, RelO (fs.lookup f) (m f))
      obtain ⟨od, hod, _⟩ := lookIn_ns nsd
      have inst : PySem.W.InstAt s.heap a oe D (some od) := by
        refine ⟨at_, hz.1, ?_, ?_⟩
        · unfold PySem.W.notCls
          rw [dv] <;> rfl
        · rw [hz.2]
          exact hod
      exact PySem.W.kia_one (PySem.W.kitx_exc C.c C.ga C.gg C.ex C.ha C.hn C.ht C.hm) I.kIn inst kit (fun z => nomatch z) fun tk => ⟨.bl b, H, I.kept (t' := tk) fun _ _ z => z, rfl, q⟩
def rCntB (K : PySem.W.Frag) : V → List V → Hp → VK → Prop := fun x xs H Q => ∃ (p : Addr) (bs : List Bool) (k : Bool), x = .ref p ∧ xs = [.bl k] ∧ SqL K H p (bs.map V.bl) ∧ Q (.int (bs.count k : Nat)) H
theorem bools_of {bs : List Bool} {its : List Value} (h : Vals (bs.map V.bl) its) : its = bs.map Value.bool := by
  induction bs generalizing its with
  | nil => cases h; rfl
  | cons b r ih =>
    cases h with
    | cons r1 rr =>
      cases r1
      rw [ih rr]
      rfl
theorem mt_bcount : MtR X "list.count" (rCntB X.K) := by
  rintro pins s σ H x xs v us Q I rx rxs ⟨p, bs, k, rfl, rfl, hs, q⟩
  cases rx
  obtain ⟨u, rfl, ru⟩ := rxs.one
  cases ru
  obtain ⟨its, rv, ⟨⟨cls, dd, data, sl⟩, n, ho, hc, hdn, hd⟩, hlen⟩ := I.list hs
  dsimp only at hc hd
  subst hc hd
  have e := bools_of rv
  have ec : ∀ bs : List Bool, (bs.map Value.bool).countP (isBoolOf k) = bs.count k := fun bs => by
    induction bs with
    | nil => rfl
    | cons b r ih =>
      rw [List.map_cons, List.countP_cons, List.count_cons, ih]
      rfl
  refine call_meets PySem.F.slot_list_count ⟨_, ho, rfl⟩ PySem.F.entry_list_count (PySem.F.args_list_count_2 _ _) (PySem.SeqAt.list_countAt p its.toArray n dd sl (.bool k) (isBoolOf k)) ⟨ho, fun y hy => ?_, ?_⟩
  · have hy : y ∈ its := by simpa using hy
    rw [e] at hy
    obtain ⟨b, _, rfl⟩ := List.mem_map.mp hy
    exact PySem.SeqAt.EqAt.bool_bool b k
  · refine ⟨.int (bs.count k : Nat), H, I.tok _, ⟨s.toks, ?_⟩, q⟩
    show Value.int ((its.toArray.toList.countP (isBoolOf k) : Nat) : Int) s.toks = _
    have e2 : its.toArray.toList = bs.map Value.bool := e
    rw [e2, ec]
theorem pt_off {e : Expr} : PT X e (fun _ _ _ => False) := ⟨fun _ _ _ _ _ _ h => h.elim⟩
end
end Kn


namespace Kn
open PySem PySem.Spec PyProof.Rows L2
abbrev nRef : List Str := ["_law_error", "_law_families"]
theorem scRef : FnScope nRef ["_law_error"] (defScope (topS 29)) := ⟨rfl, rfl, rfl, by decide +kernel, rfl, by decide +kernel, by decide +kernel⟩
/-- what is known of the error classes: those names that the refusal asks for, seen from NotUsable -/
structure Asked (K : PySem.W.Frag) (mg : Str → Option Value) (x : Str) (D : Addr) (b : Bool) : Prop where
  ex : ∃ C : Addr, mg x = some (.ref C) ∧ PySem.W.kitOne K (.ref D) (.ref C) = some b
structure ErrN (K : PySem.W.Frag) (mg : Str → Option Value) (D : Addr) : Prop where
  is : IsC K D
  xf : XfC K D
  noW : PySem.W.findIn K (.ref D) "word" = some none
  noA : PySem.W.findIn K (.ref D) "at" = some none
  paper : Asked K mg "PaperError" D false
  web : Asked K mg "WebError" D true
  live : Asked K mg "LiveError" D false
  text : Asked K mg "TextError" D false
  use : Asked K mg "NotUsable" D true
  missed : Asked K mg "Missed" D false
  val : PySem.W.kitOne K (.ref D) (.type "ValueError") = some true
def spRef (K : PySem.W.Frag) (D : Addr) : ESp := fun a c d vs H Q _ => ∃ (dd : Addr) (w t : V), vs = [.ref a] ∧ c = .ref D ∧ d = some dd ∧ H dd = some (.xd [("at", t), ("word", w)]) ∧
  ∀ (p : Addr) (H' : Hp), Same H H' → H p = none → H' p = some (.tup [.str "no", .str "use", w, t]) → Q (.ref p) H'
section
variable {P : Program} {w : World} {K : PySem.W.Frag} {mg : Str → Option Value} {base : Heap}
theorem ok_ref {g D : Addr} {fd : FuncData} (F : Fun K "_law_refusal" "_law_refusal" (topS 29) g fd) (T : ErrN K mg D) (mi : mg "isinstance" = none) (mv : mg "ValueError" = none) : Handed P w K mg base 1 g fd ["_law_error"] (spRef K D) := by
  refine Handed.body F scRef (fun a c d vs H Q E h => ?_) (fun cdv A fr s H vs Q E p c d hz hf hr h => ?_)
  · obtain ⟨dd, w, t, rfl, _⟩ := h
    rfl
  · obtain ⟨dd, wv, t, rfl, rfl, rfl, hd, q⟩ := h
    obtain ⟨C1, g1, k1⟩ := T.paper.ex
    obtain ⟨C2, g2, k2⟩ := T.web.ex
    obtain ⟨C3, g3, k3⟩ := T.live.ex
    obtain ⟨C4, g4, k4⟩ := T.text.ex
    obtain ⟨C5, g5, k5⟩ := T.use.ex
    obtain ⟨C6, g6, k6⟩ := T.missed.ex
    have ci := fun {X : Cx} (e : X.K = K) => call_isF (X := X) (a := p.1) (D := D) (d := some dd) (oe := p.2) (pn := []) (by rw [e]; exact T.is) hz hf
    refine ⟨_, pss_cons (ps_set (i := 1) scRef.nd rfl (.inl rfl) (pe_lst (pa_cons (pe_callB (ci rfl) (by rfl) mi boot_isinstance (pa_cons (pv 0) (pa_cons (pe_glob (v := .ref C1) rfl g1 rfl) pa_nil)))
        (pa_cons (pe_callB (ci rfl) (by rfl) mi boot_isinstance (pa_cons (pv 0) (pa_cons (pe_glob (v := .ref C2) rfl g2 rfl) pa_nil)))
        (pa_cons (pe_callB (ci rfl) (by rfl) mi boot_isinstance (pa_cons (pv 0) (pa_cons (pe_glob (v := .ref C3) rfl g3 rfl) pa_nil))) pa_nil)))))
      (pss_cons (ps_expr (pe_bm PySem.F.plainAttrs_list PySem.F.slot_list_append PySem.F.type_list_append mt_append (pv 1) (pa_cons (pe_callB (ci rfl) (by rfl) mi boot_isinstance (pa_cons (pv 0) (pa_cons (pe_glob (v := .ref C4) rfl g4 rfl) pa_nil))) pa_nil)))
      (pss_cons (ps_if (PW.pt (pw_or (pt_cmpR op_ne (pe_bm PySem.F.plainAttrs_list PySem.F.slot_list_count PySem.F.type_list_count mt_bcount (pv 1) (pa_cons pe_bl pa_nil)) pe_int (nomark _))
          (pw_or1 (pt_not (pt_val (pe_callB (ci rfl) (by rfl) mi boot_isinstance (pa_cons (pv 0) (pa_cons (pe_bltn (v := .ty "ValueError") rfl mv PyProof.Rows.Boot.«ValueError» rfl) pa_nil)))))))) (pss_one ps_never) pss_nil)
      (pss_cons (ps_if (PW.pt (pw_and (pt_val (pe_ix (r := rIxL K) ix_list (pv 1) pe_int (fun _ _ => rfl))) (pw_and1 pt_off))) (pss_one ps_never) pss_nil)
      (pss_cons (ps_if (PW.pt (pw_and (pt_val (pe_ix (r := rIxL K) ix_list (pv 1) pe_int (fun _ _ => rfl))) (pw_and (pt_val (pe_callB (ci rfl) (by rfl) mi boot_isinstance (pa_cons (pv 0) (pa_cons (pe_glob (v := .ref C5) rfl g5 rfl) pa_nil))))
          (pw_and1 (pt_not (pt_val (pe_callB (ci rfl) (by rfl) mi boot_isinstance (pa_cons (pv 0) (pa_cons (pe_glob (v := .ref C6) rfl g6 rfl) pa_nil)))))))))
        (pss_one (ps_ret (pe_tup (pa_cons pe_str (pa_cons pe_str (pa_cons (pe_xf T.xf T.noW hz hf (pv 0)) (pa_cons (pe_xf T.xf T.noA hz hf (pv 0)) pa_nil))))))) pss_nil) pss_never)))), ?_⟩
    refine ⟨.ref p.1, rfl, .ref C1, .ref C1, false, dd, _, rfl, (fun _ r => r), k1, rfl, hd, .ref p.1, rfl, .ref C2, .ref C2, true, dd, _, rfl, (fun _ r => r), k2, rfl, hd, .ref p.1, rfl, .ref C3, .ref C3, false, dd, _, rfl, (fun _ r => r), k3, rfl, hd, (show 3 ≤ sizeLine by decide), fun L nL => ?_⟩
    have s1 : Same H (upd H L (.lst [.bl false, .bl true, .bl false])) := same_new nL
    have hd1 := s1 _ _ hd
    refine ⟨.ref L, rfl, .inl ⟨rfl, _, .inl (.inl upd_same)⟩, .ref p.1, rfl, .ref C4, .ref C4, false, dd, _, rfl, (fun _ r => r), k4, rfl, hd1, L, _, _, rfl, rfl, upd_same, (show 3 < sizeLine by decide), ?_⟩
    have s2 : Same H (upd (upd H L (.lst [.bl false, .bl true, .bl false])) L (.lst [.bl false, .bl true, .bl false, .bl false])) := putS s1 nL
    have eL : (upd (upd H L (.lst [.bl false, .bl true, .bl false])) L (.lst [.bl false, .bl true, .bl false, .bl false])) L = some (.lst [.bl false, .bl true, .bl false, .bl false]) := upd_same
    have hd2 := s2 _ _ hd
    show tSeq _ _ _ _ (upd (upd H L (.lst [.bl false, .bl true, .bl false])) L (.lst [.bl false, .bl true, .bl false, .bl false]))
    generalize upd (upd H L (.lst [.bl false, .bl true, .bl false])) L (.lst [.bl false, .bl true, .bl false, .bl false]) = G at s2 eL hd2 ⊢
    have at_ : ∀ {j : Nat} {v : V}, [V.bl false, V.bl true, V.bl false, V.bl false][j]? = some v → atI [V.bl false, V.bl true, V.bl false, V.bl false] (j : Int) = some v := fun h => atI_nat h
    refine ⟨.ref L, rfl, .inl ⟨rfl, _, .inl (.inl eL)⟩, L, [false, true, false, false], true, rfl, rfl, .inl (.inl eL), rfl, ?_⟩
    refine ⟨false, rfl, iteF ?_⟩
    refine ⟨.ref p.1, rfl, .ty "ValueError", .type "ValueError", true, dd, _, rfl, (fun _ r => r), T.val, rfl, hd2, true, rfl, iteF ?_⟩
    refine ⟨.ref L, rfl, L, _, 0, .bl false, rfl, rfl, .inl (.inl eL), at_ (j := 0) rfl, false, rfl, iteF (iteF ?_)⟩
    refine ⟨.ref L, rfl, L, _, 1, .bl true, rfl, rfl, .inl (.inl eL), at_ (j := 1) rfl, true, rfl, iteT ?_⟩
    refine ⟨.ref p.1, rfl, .ref C5, .ref C5, true, dd, _, rfl, (fun _ r => r), k5, rfl, hd2, true, rfl, iteT ?_⟩
    refine ⟨.ref p.1, rfl, .ref C6, .ref C6, false, dd, _, rfl, (fun _ r => r), k6, rfl, hd2, false, rfl, iteT ?_⟩
    refine ⟨.ref p.1, rfl, rfl, rfl, dd, _, wv, rfl, hd2, rfl, .ref p.1, rfl, rfl, rfl, dd, _, t, rfl, hd2, rfl, (show 4 ≤ sizeLine by decide), fun z nz => ?_⟩
    exact q z _ (putS s2 (s2.free nz)) (s2.free nz) upd_same
end
end Kn


namespace Kn
open PySem PySem.Spec PyProof.Rows L2 LamX
abbrev nSaid : List Str := ["_law_ask", "_law_error"]
theorem scSaid : FnScope nSaid ["_law_ask"] (defScope (topS 30)) := ⟨rfl, rfl, rfl, by decide +kernel, rfl, by decide +kernel, by decide +kernel⟩
theorem takes_len {X : Cx} {W : WX} (tk : Takes X W) : Takes X (fun c d σ H => σ.length = X.N.length → W c d σ H) := by
  rintro u s' ⟨a, B, sI, pins, σ, H, c, d, e, I, nb, up, sky, na, os, ag, w⟩
  exact tk u s' ⟨a, B, sI, pins, σ, H, c, d, e, I, nb, up, sky, na, os, ag, w I.len⟩
/-- what is raised: NotUsable(w, t) -/
def Refused (K : PySem.W.Frag) (D : Addr) (Q : VK) : XK := fun c d H => c = .ref D ∧ ∃ (dd : Addr) (w t : V), d = some dd ∧ H dd = some (.xd [("at", t), ("word", w)]) ∧
  ∀ (p : Addr) (H' : Hp), Same H H' → H p = none → H' p = some (.tup [.str "no", .str "use", w, t]) → Q (.ref p) H'
def TTsaid (K : PySem.W.Frag) (D : Addr) : (XK → Hp → VK → Prop) → Hp → VK → Prop := fun tl H Q => tl (Refused K D Q) H fun v H' => 2 ≤ sizeLine ∧ ∀ p, H' p = none → Q (.ref p) (upd H' p (.tup [.str "told", v]))
theorem said_gives {X : Cx} {g gR D CL : Addr} {cdg : Value} {q : Str} {fdR : FuncData} (FR : Fun X.K "_law_refusal" "_law_refusal" (topS 29) gR fdR) (bR : Binds X.K fdR ["_law_error"] []) (mR : X.mg "_law_refusal" = some (.ref gR))
    (GR : Handed X.prog X.w X.K X.mg X.base 1 gR fdR ["_law_error"] (spRef X.K D)) (mL : X.mg "LetterError" = some (.ref CL)) (ex : PySem.W.exmOne X.K (.ref D) (.ref CL) = some true) (hr : Room 2 X.A) :
    GivesTo X nSaid "_law_said" (defScope (topS 30)) g cdg (defBody (topS 30)) "_law_ask" q (TTsaid X.K D) := by
  intro f c' s H Q tl act hc h
  have hrs : L2H.RoomH 1 (cxOf C8.CX0 X.prog X.w X.K X.mg X.base nSaid "_law_said" (defScope (topS 30)) g cdg X.A X.stack s H C8.E0).nox.A := (L2H.roomH_of hr).deeper _
  refine ⟨_, pss_one (ps_try_as (X := (cxOf C8.CX0 X.prog X.w X.K X.mg X.base nSaid "_law_said" (defScope (topS 30)) g cdg X.A X.stack s H C8.E0).nox) (c := .ref CL) (i := 1)
      (tb := fun W D σ H => ∃ Ech : XK, (∀ cls d σ' H', Ech cls d H' → σ'.length = 2 → W cls d σ' H') ∧ σ[0]? = some (some (.ref f)) ∧ H c' = some (CodeO c' q) ∧ tl Ech H (fun v H' => 2 ≤ sizeLine ∧ ∀ p, H' p = none → D.rt (.ref p) (upd H' p (.tup [.str "told", v]))))
      (ts := fun a cls d => tRet (tCall (spRef X.K D a cls d) [] E0 (tCons (tVar 1) tNil)))
      rfl rfl scSaid.nd rfl rfl ⟨rfl, by decide, .inl mL⟩ L2.takes0 (fun W pn xe tk _ => ?_) (fun a oe cls d pn hz hf => pss_one (ps_ret (pe_hand GR hrs hz hf (by rfl) mR FR.kp bR (pa_cons (pv 1) pa_nil))))), ?_⟩
  · refine ⟨fun pins s' σ H' D I h' => ?_⟩
    obtain ⟨Ech, hW, h1, h2, h3⟩ := h'
    exact (pss_one (ps_ret (pe_tup (pa_cons pe_str (pa_cons (act (fun c d σ H => σ.length = 2 → W c d σ H) pn xe Ech _ _ (takes_len tk) (fun c d σ' H' e l => hW c d σ' H' e l)) pa_nil))))).run pins s' σ H' D I ⟨h1, h2, h3⟩
  · refine ⟨Refused X.K D Q, ?_, rfl, hc, ?_⟩
    · rintro cls d σ' H' ⟨rfl, dd, w, t, rfl, hd, q⟩ l
      refine ⟨true, ex, fun _ a ha => ?_, fun z => by cases z⟩
      match σ', l with
      | [u, v], _ => exact ⟨.ref a, rfl, dd, w, t, rfl, rfl, rfl, hd, q⟩
    · exact h
end Kn


namespace Kn
open PySem PySem.Spec PyProof.Rows L2
def initS : Stmt := (C8.clsBody (topS 7)).getD 0 (.Pass ⟨0, 0, 0, 0⟩)
abbrev nInit : List Str := ["self", "word", "at"]
theorem scInit : FnScope nInit ["self", "word", "at"] (defScope initS) := ⟨rfl, rfl, rfl, by decide +kernel, rfl, by decide +kernel, by decide +kernel⟩
def spInit (K : PySem.W.Frag) (D : Addr) : Sp := fun vs H Q _ => ∃ (a : Addr) (x y : V), vs = [.ref a, x, y] ∧ H a = some (exo a D none) ∧
  ∀ dx, H dx = none → dx ≠ a → Q .non (upd (upd (upd H dx (exd dx [("word", x)])) a (exo a D (some dx))) dx (exd dx [("at", y), ("word", x)]))
structure ErrM (K : PySem.W.Frag) (mg : Str → Option Value) (D fI : Addr) (fdI : FuncData) : Prop where
  n : ErrN K mg D
  x : OexC K D
  F : Fun K "__init__" "NotUsable.__init__" initS fI fdI
  b : Binds K fdI ["self", "word", "at"] []
  i : PySem.W.findIn K (.ref D) "__init__" = some (some (.ref fI))
  t : PySem.W.typeIn K (.ref fI) = some (.type "function")
  m : mg "NotUsable" = some (.ref D)
section
variable {P : Program} {w : World} {K : PySem.W.Frag} {mg : Str → Option Value} {base : Heap}
theorem ok_init {f D : Addr} {fd : FuncData} (T : ErrM K mg D f fd) : FnOk P w K mg base CX0 1 f fd ["self", "word", "at"] (spInit K D) := by
  refine T.F.ok scInit (fun vs H Q E h => ?_) (fun cdv A outer s H vs Q E hr h => ?_)
  · obtain ⟨a, x, y, rfl, _⟩ := h
    rfl
  · obtain ⟨a, x, y, rfl, ha, q⟩ := h
    refine ⟨_, pss_cons (ps_ost (pv 0) (pv 1)) (pss_one (ps_ost (pv 0) (pv 2))), ?_⟩
    refine ⟨x, rfl, .ref a, rfl, a, D, rfl, T.x, T.n.noW, .inl ⟨ha, fun dx nd ne => ?_⟩⟩
    refine ⟨y, rfl, .ref a, rfl, a, D, rfl, T.x, T.n.noA, .inr ⟨dx, [("word", x)], upd_same, (by rw [upd_ne ne, upd_same]), (show 1 ≤ 900 by decide), q dx nd ne⟩⟩
theorem made_raise {H : Hp} {a dx : Addr} {o1 o2 o3 o4 : HO} {fs : List (Str × V)} (ha : H a = none) (ne : dx ≠ a) : upd (del (upd (upd (upd (upd H a o1) dx o2) a o3) dx o4) a) dx (.xd fs) = upd H dx (.xd fs) := by
  funext b
  by_cases h1 : b = dx
  · rw [h1, upd_same, upd_same]
  · rw [upd_ne h1, upd_ne h1]
    by_cases h2 : b = a
    · rw [h2, del_same, ha]
    · rw [del_ne h2, upd_ne h1, upd_ne h2, upd_ne h1, upd_ne h2]
end
end Kn


namespace Kn
open PySem PySem.Spec PyProof.Rows L2
/-! ### data that can be shown -/
structure Sh (k B : Nat) (d : PyData) : Prop where
  ok : d.showable = true
  nd : d.hasDict = false
  dp : d.depth ≤ k
  ln : d.shown.length ≤ B
theorem Sh.mono {k B k' B' : Nat} {d : PyData} (h : Sh k B d) (a : k ≤ k') (b : B ≤ B') : Sh k' B' d := ⟨h.ok, h.nd, Nat.le_trans h.dp a, Nat.le_trans h.ln b⟩
theorem sh_str {n : Nat} {x : Str} (h : Fit n x) : Sh 0 (10 * n + 2) (.str x) := by
  refine ⟨rfl, rfl, Nat.le_refl _, ?_⟩
  show (reprText x).length ≤ _
  have := StrLaws.reprText_len x h.2
  have := h.1
  omega
theorem sh_int {i : Int} (h : i.natAbs < 10 ^ 60) : Sh 0 61 (.int i) := ⟨by show decide _ = true; exact decide_eq_true (fee_log h), rfl, Nat.le_refl _, (feeT_fit h).1⟩
theorem sh_bool (b : Bool) : Sh 0 5 (.bool b) := by
  refine ⟨rfl, rfl, Nat.le_refl _, ?_⟩
  cases b <;> decide +kernel
theorem shownAll_len {k B : Nat} : ∀ ds : List PyData, (∀ d ∈ ds, Sh k B d) → PyData.showableAll ds = true ∧ PyData.hasDictAll ds = false ∧ PyData.depthAll ds ≤ k ∧ ((PyData.shownAll ds).map (·.length)).sum ≤ ds.length * B ∧ (PyData.shownAll ds).length = ds.length
  | [], _ => ⟨rfl, rfl, Nat.zero_le _, Nat.zero_le _, rfl⟩
  | d :: r, h => by
    obtain ⟨a1, a2, a3, a4, a5⟩ := shownAll_len r fun x hx => h x (List.mem_cons_of_mem _ hx)
    have q := h d (List.mem_cons_self ..)
    refine ⟨?_, ?_, ?_, ?_, ?_⟩
    · show (d.showable && PyData.showableAll r) = true
      rw [q.ok, a1]
      rfl
    · show (d.hasDict || PyData.hasDictAll r) = false
      rw [q.nd, a2]
      rfl
    · show max d.depth (PyData.depthAll r) ≤ k
      have := q.dp
      omega
    · show ((d.shown :: PyData.shownAll r).map (·.length)).sum ≤ (r.length + 1) * B
      rw [List.map_cons, List.sum_cons, Nat.add_mul]
      have := q.ln
      omega
    · show (d.shown :: PyData.shownAll r).length = r.length + 1
      rw [List.length_cons, a5]
theorem sh_list {k B n : Nat} {ds : List PyData} (h : ∀ d ∈ ds, Sh k B d) (hn : ds.length ≤ n) : Sh (k + 1) (n * (B + 2) + 3) (.list ds) := by
  obtain ⟨a1, a2, a3, a4, a5⟩ := shownAll_len ds h
  refine ⟨a1, a2, Nat.succ_le_succ a3, ?_⟩
  show (listText (PyData.shownAll ds)).length ≤ _
  have q := listText_len_le (PyData.shownAll ds)
  rw [a5] at q
  have m : ds.length * (B + 2) ≤ n * (B + 2) := Nat.mul_le_mul_right _ hn
  rw [Nat.mul_add] at m
  omega
theorem sh_tup {k B n : Nat} {ds : List PyData} (h : ∀ d ∈ ds, Sh k B d) (hn : ds.length ≤ n) : Sh (k + 1) (n * (B + 2) + 3) (.tuple ds) := by
  obtain ⟨a1, a2, a3, a4, a5⟩ := shownAll_len ds h
  refine ⟨a1, a2, Nat.succ_le_succ a3, ?_⟩
  show (tupleText (PyData.shownAll ds)).length ≤ _
  have q := tupleText_len_le (PyData.shownAll ds)
  rw [a5] at q
  have m : ds.length * (B + 2) ≤ n * (B + 2) := Nat.mul_le_mul_right _ hn
  rw [Nat.mul_add] at m
  omega
def dEnt (e : Ent) : PyData := .tuple [.str e.name, .int e.fee, .bool e.has, .tuple (e.row.map PyData.str)]
def dPg (g : Pg) : PyData := .tuple [.tuple (g.es.map dEnt), .str g.asks]
theorem dp_strs {K : PySem.W.Frag} {H : Hp} : ∀ ss : List Str, DpAll K H (ss.map V.str) (ss.map PyData.str)
  | [] => .nil
  | s :: r => .cons (.str s) (dp_strs r)
theorem EntAt.dp {K : PySem.W.Frag} {H : Hp} {v : V} {e : Ent} (h : EntAt K H v e) : Dp K H v (dEnt e) := by
  obtain ⟨p, q, rfl, h1, h2⟩ := h
  exact .tup h1 (.cons (.str _) (.cons (.int _) (.cons (.bl _) (.cons (.tup h2 (dp_strs e.row)) .nil))))
theorem EntsAt.dp {K : PySem.W.Frag} {H : Hp} : ∀ {vs : List V} {es : List Ent}, EntsAt K H vs es → DpAll K H vs (es.map dEnt)
  | _, _, .nil => .nil
  | _, _, .cons a b => .cons a.dp (EntsAt.dp b)
theorem PgAt.dp {K : PySem.W.Frag} {H : Hp} {v : V} {g : Pg} (h : PgAt K H v g) : Dp K H v (dPg g) := by
  obtain ⟨p, q, vs, rfl, h1, h2, h3⟩ := h
  exact .tup h1 (.cons (.tup h2 h3.dp) (.cons (.str _) .nil))
theorem sh_ent {e : Ent} (h : e.ok) : Sh 2 3000 (dEnt e) := by
  obtain ⟨h1, h2, h3, h4⟩ := h
  refine (sh_tup (k := 1) (B := 675) (n := 4) ?_ (by simp)).mono (by decide) (by decide)
  intro d hd
  simp only [List.mem_cons, List.not_mem_nil, or_false] at hd
  rcases hd with rfl | rfl | rfl | rfl
  · exact (sh_str h1).mono (by decide) (by decide)
  · exact (sh_int h2).mono (by decide) (by decide)
  · exact (sh_bool _).mono (by decide) (by decide)
  · refine (sh_tup (k := 0) (B := 82) (n := 8) ?_ (by rw [List.length_map]; exact h3)).mono (by decide) (by decide)
    intro d hd
    obtain ⟨s, hs, rfl⟩ := List.mem_map.mp hd
    exact sh_str (h4 s hs)
theorem sh_pg {g : Pg} (h : g.ok) : Sh 4 100000 (dPg g) := by
  obtain ⟨h1, h2, h3⟩ := h
  refine (sh_tup (k := 3) (B := 40000) (n := 2) ?_ (by simp)).mono (by decide) (by decide)
  intro d hd
  simp only [List.mem_cons, List.not_mem_nil, or_false] at hd
  rcases hd with rfl | rfl
  · refine (sh_tup (k := 2) (B := 3000) (n := 12) ?_ (by rw [List.length_map]; exact h1)).mono (by decide) (by decide)
    intro d hd
    obtain ⟨e, he, rfl⟩ := List.mem_map.mp hd
    exact sh_ent (h2 e he)
  · exact (sh_str h3).mono (by decide) (by decide)

end Kn


namespace Kn
open PySem PySem.Spec PyProof.Rows L2 LamX
/-! ### what stays where tables of lambdas grow -/
theorem ext_ts {H H' : Hp} (e : ExtN H H') : TS H H' := ⟨fun b xs h => e b _ h (fun ps z => by cases z), fun b o xs h => e b _ h (fun ps z => by cases z)⟩
theorem ext_same {H H' : Hp} (s : Same H H') : ExtN H H' := ExtN.of s
theorem ext_lst {H H' : Hp} {a : Addr} {xs : List V} (e : ExtN H H') (h : H a = some (.lst xs)) : H' a = some (.lst xs) := e a _ h (fun ps z => by cases z)
theorem ext_tup {H H' : Hp} {a : Addr} {xs : List V} (e : ExtN H H') (h : H a = some (.tup xs)) : H' a = some (.tup xs) := e a _ h (fun ps z => by cases z)
theorem seqE {K : PySem.W.Frag} {H H' : Hp} {a : Addr} {xs : List V} (e : ExtN H H') (h : SqL K H a xs) : SqL K H' a xs := by
  rcases h with (h | ⟨o, h⟩) | h
  · exact .inl (.inl (e _ _ h (fun ps z => by cases z)))
  · exact .inl (.inr ⟨o, e _ _ h (fun ps z => by cases z)⟩)
  · exact .inr h
mutual
theorem dpE {K : PySem.W.Frag} {H H' : Hp} (e : ExtN H H') : ∀ {v : V} {d : PyData}, Dp K H v d → Dp K H' v d
  | _, _, .non => .non
  | _, _, .bl b => .bl b
  | _, _, .int i => .int i
  | _, _, .str x => .str x
  | _, _, .lst h k => .lst (seqE e h) (dpEs e k)
  | _, _, .tup h k => .tup (tupT (ext_ts e) h) (dpEs e k)
theorem dpEs {K : PySem.W.Frag} {H H' : Hp} (e : ExtN H H') : ∀ {vs : List V} {ds : List PyData}, DpAll K H vs ds → DpAll K H' vs ds
  | _, _, .nil => .nil
  | _, _, .cons a b => .cons (dpE e a) (dpEs e b)
end
theorem Fd.ext {f a : Addr} {ns : List Int} {H H' : Hp} {c : Nat} (h : Fd f a ns H c) (e : ExtN H H') : Fd f a ns H' c := by
  obtain ⟨⟨kvs, t, x, n, h1, h2⟩, h6, h7⟩ := h
  exact ⟨⟨kvs, t, x, n, e _ _ h1 (fun ps z => by cases z), h2⟩, ext_lst e h6, h7⟩
/-- one object but no table or code changes -/
theorem tabs_but {T : List (Addr × Str)} {H H' : Hp} {D : Addr} {o : HO} (t : Tabs T H) (hD : H D = some o) (n1 : ∀ ps, o ≠ .tbl ps) (n2 : ∀ c q, o ≠ CodeO c q) (k : ∀ b u, b ≠ D → H b = some u → H' b = some u) : Tabs T H' := by
  intro p hp
  obtain ⟨ps, h1, h2, h3⟩ := t p hp
  refine ⟨ps, k _ _ (fun z => ?_) h1, h2, fun pos cv hc => ?_⟩
  · rw [z, hD] at h1
    exact n1 ps (Option.some.inj h1)
  · obtain ⟨c, e1, e2⟩ := h3 pos cv hc
    refine ⟨c, e1, k _ _ (fun z => ?_) e2⟩
    rw [z, hD] at e2
    exact n2 _ _ (Option.some.inj e2)
theorem lst_code {xs : List V} (c : Addr) (q : Str) : HO.lst xs ≠ CodeO c q := fun z => by
  unfold CodeO at z
  cases z
theorem dk_code {kvs : List (Key × V)} (c : Addr) (q : Str) : HO.dK kvs ≠ CodeO c q := fun z => by
  unfold CodeO at z
  cases z
theorem tabs_lst {T : List (Addr × Str)} {H : Hp} {D : Addr} {xs : List V} {o : HO} (t : Tabs T H) (hD : H D = some (.lst xs)) : Tabs T (upd H D o) :=
  tabs_but t hD (fun ps z => by cases z) lst_code fun b u n h => by rw [upd_ne n]; exact h
theorem tabs_fd {T : List (Addr × Str)} {f a : Addr} {ns : List Int} {H H' : Hp} {c : Nat} (t : Tabs T H) (d : Fd f a ns H c) (k : Keep f H H') : Tabs T H' := by
  obtain ⟨⟨kvs, _, _, _, h1, _⟩, _, _⟩ := d
  exact tabs_but t h1 (fun ps z => by cases z) dk_code k
/-! ### a def whose code object is known -/
structure FunC (K : PySem.W.Frag) (x : Str) (st : Stmt) (f : Addr) (fd : FuncData) (c : Addr) : Prop where
  ex : ∃ (oc : Value) (od : Option Addr) (kV doc pm : Value) (an : Option Addr) (ct : Value) (osl : Array (Option Value)),
    fd = PySem.W.fnOf x x (defArgs st) (defBody st) (defScope st) .none kV doc pm an (.ref c) ct ∧ K.lookup f = some ⟨oc, od, .func fd, osl⟩ ∧ PySem.W.codeIn K (.ref c) x = true
  kp : PySem.W.keepIn K (.ref f) = true
section
variable {P : Program} {w : World} {K : PySem.W.Frag} {mg : Str → Option Value} {base : Heap} {k : Nat} {f c : Addr} {fd : FuncData} {ps N : List Str} {sp : Sp} {x : Str} {st : Stmt}
theorem Vow.bodyC (F : FunC K x st f fd c) (S : FnScope N ps (defScope st)) (many : ∀ vs H Q E, sp vs H Q E → vs.length = ps.length)
    (hb : ∀ (A : Around) (fr : List Env) (s : Shared) (H : Hp) (vs : List V) (Q : VK) (E : XK), A.guards = some [] → Room k (A.deeper (envOfC x (defScope st) s.heap.objs.size f (.ref c))) → sp vs H Q E →
      ∃ t, PSs (cxOf CX0 P w K mg base N x (defScope st) f (.ref c) A fr s H E).nox (defBody st) t ∧ t { nx := fun _ H' => Q .non H', rt := Q } (start N vs) H) :
    Vow P w K mg base (k + 1) f fd ps sp := by
  obtain ⟨oc, od, kV, doc, pm, an, ct, osl, rfl, look, cdOk⟩ := F.ex
  refine ⟨many, fun A fr s H g us vs Q E hg room z bound rv told => ?_⟩
  have held : ∀ b o, base.get? b = some o → s.heap.get? b = some o := fun b o y => (z.bs b o y).1
  have KS : K.In s.heap := z.mod.kin.keeps held
  have parL : ∀ y ∈ ps.zip us, (defScope st).names.lookup y.1 = some .local ∨ ((defScope st).names.lookup y.1 = some .cell ∧ ((cellsFrom (s.heap.objs.size + 1) (defScope st).names []).lookup y.1).isSome = true) := by
    rintro ⟨n, v⟩ hy
    cases S.par n (List.of_mem_zip hy).1 with
    | inl q => exact .inl q
    | inr q => exact .inr ⟨q, PySem.W.cellsFrom_some _ _ _ (.inl q)⟩
  refine codeAny_call_function room.depth (KS _ _ look) rfl S.co S.gen rfl (PySem.W.codeRec_of KS cdOk) (bound _ _ _ _ ?_)
  refine wpAny_newFunctionEnv_cells S.kind parL ?_
  rintro env rfl s1 y
  refine ⟨(z.mod.nolimit.keeps held).keeps y.toInCall.keep, codeAny_func ?_⟩
  obtain ⟨t, ht, ends⟩ := hb A fr s H vs Q E hg (room.deeper _) told
  have I := inv_start (CX := CX0) (P := P) (mg := mg) (E := E) S room.hd z (many _ _ _ _ told) rv y
  refine wpAny_mono (ht.nox.run [] s1 (start N vs) H _ I ends) ?_ (fun _ _ q => q)
  intro fl s2 hs
  cases fl with
  | ret u => obtain ⟨v, σ2, H2, J, r2, q⟩ := hs; exact ⟨v, H2, J.os, J.bare, J.base, J.hok, r2, q⟩
  | next => obtain ⟨σ2, H2, J, q⟩ := hs; exact ⟨V.non, H2, J.os, J.bare, J.base, J.hok, rfl, q⟩
  | brk => obtain ⟨_, _, _, q⟩ := hs; exact q.elim
  | cont => obtain ⟨_, _, _, q⟩ := hs; exact q.elim
end
/-! ### use, odds -/
abbrev nUse : List Str := ["_law_word"]
theorem scUse : FnScope nUse ["_law_word"] (defScope (topS 31)) := ⟨rfl, rfl, rfl, by decide +kernel, rfl, by decide +kernel, by decide +kernel⟩
def spUse : Sp := fun vs H Q _ => ∃ x : V, vs = [x] ∧ ∀ p, H p = none → Q (.ref p) (upd H p (.tup [.str "no", .str "use", x, .int (-1)]))
section
variable {P : Program} {w : World} {K : PySem.W.Frag} {mg : Str → Option Value} {base : Heap}
theorem ok_use {f : Addr} {fd : FuncData} (F : Fun K "_law_use" "_law_use" (topS 31) f fd) : FnOk P w K mg base CX0 1 f fd ["_law_word"] spUse := by
  refine F.ok scUse (fun vs H Q E h => ?_) (fun cdv A outer s H vs Q E hr h => ?_)
  · obtain ⟨x, rfl, _⟩ := h
    rfl
  · obtain ⟨x, rfl, q⟩ := h
    refine ⟨_, pss_one (ps_ret (pe_tup (pa_cons pe_str (pa_cons pe_str (pa_cons (pv 0) (pa_cons (pe_un un_neg pe_int) pa_nil)))))), ?_⟩
    exact ⟨x, rfl, 1, rfl, (show 4 ≤ sizeLine by decide), q⟩
end
end Kn


/-! Kn: isinstance of data. -/
namespace Kn
open PySem PySem.Spec PyProof.Rows L2
def tyName : PyData → String
  | .none => "NoneType"
  | .bool _ => "bool"
  | .int _ => "int"
  | .str _ => "str"
  | .list _ => "list"
  | .tuple _ => "tuple"
  | .dict _ => "dict"
def intB : PyData → Bool
  | .int _ => true
  | _ => false
def boolB : PyData → Bool
  | .bool _ => true
  | _ => false
def strB : PyData → Bool
  | .str _ => true
  | _ => false
def posB : PyData → Bool
  | .int n => decide (1 ≤ n)
  | _ => false
theorem ty_of {K : PySem.W.Frag} {H : Hp} {v : V} {d : PyData} (h : Dp K H v d) : TyX K H v (.type (tyName d)) := by
  cases h with
  | non => exact .base .non
  | bl b => exact .base (.bl b)
  | int i => exact .base (.int i)
  | str x => exact .base (.str x)
  | lst h k =>
    rcases h with (h | ⟨o, h⟩) | ⟨o, its, n, h, c, _⟩
    · exact .base (.lst h)
    · exact .base (.frz h)
    · exact .kList h c
  | tup h k =>
    rcases h with (h | ⟨o, h⟩) | ⟨o, its, n, h, c, _⟩
    · exact .base (.tup h)
    · exact .fTuple h
    · exact .kTuple h c
theorem no_dict {K : PySem.W.Frag} {H : Hp} {v : V} {es : List (PyData × PyData)} (h : Dp K H v (.dict es)) : False := by cases h
section
variable {K : PySem.W.Frag} {d : PyData}
theorem kit_int : PySem.W.kitOne K (.type (tyName d)) (.type "int") = some (intB d || boolB d) := by
  cases d with
  | none => exact kit_ty (K := K) (a := "NoneType") (b := "int") (r := false) (by decide +kernel)
  | bool _ => exact kit_ty (K := K) (a := "bool") (b := "int") (r := true) (by decide +kernel)
  | int _ => exact kit_ty (K := K) (a := "int") (b := "int") (r := true) (by decide +kernel)
  | str _ => exact kit_ty (K := K) (a := "str") (b := "int") (r := false) (by decide +kernel)
  | list _ => exact kit_ty (K := K) (a := "list") (b := "int") (r := false) (by decide +kernel)
  | tuple _ => exact kit_ty (K := K) (a := "tuple") (b := "int") (r := false) (by decide +kernel)
  | dict _ => exact kit_ty (K := K) (a := "dict") (b := "int") (r := false) (by decide +kernel)
theorem kit_bool : PySem.W.kitOne K (.type (tyName d)) (.type "bool") = some (boolB d) := by
  cases d with
  | none => exact kit_ty (K := K) (a := "NoneType") (b := "bool") (r := false) (by decide +kernel)
  | bool _ => exact kit_ty (K := K) (a := "bool") (b := "bool") (r := true) (by decide +kernel)
  | int _ => exact kit_ty (K := K) (a := "int") (b := "bool") (r := false) (by decide +kernel)
  | str _ => exact kit_ty (K := K) (a := "str") (b := "bool") (r := false) (by decide +kernel)
  | list _ => exact kit_ty (K := K) (a := "list") (b := "bool") (r := false) (by decide +kernel)
  | tuple _ => exact kit_ty (K := K) (a := "tuple") (b := "bool") (r := false) (by decide +kernel)
  | dict _ => exact kit_ty (K := K) (a := "dict") (b := "bool") (r := false) (by decide +kernel)
theorem kit_str : PySem.W.kitOne K (.type (tyName d)) (.type "str") = some (strB d) := by
  cases d with
  | none => exact kit_ty (K := K) (a := "NoneType") (b := "str") (r := false) (by decide +kernel)
  | bool _ => exact kit_ty (K := K) (a := "bool") (b := "str") (r := false) (by decide +kernel)
  | int _ => exact kit_ty (K := K) (a := "int") (b := "str") (r := false) (by decide +kernel)
  | str _ => exact kit_ty (K := K) (a := "str") (b := "str") (r := true) (by decide +kernel)
  | list _ => exact kit_ty (K := K) (a := "list") (b := "str") (r := false) (by decide +kernel)
  | tuple _ => exact kit_ty (K := K) (a := "tuple") (b := "str") (r := false) (by decide +kernel)
  | dict _ => exact kit_ty (K := K) (a := "dict") (b := "str") (r := false) (by decide +kernel)
end
end Kn


/-! Kn: written data, as a whole. -/
namespace Kn
open PySem PySem.Spec PyProof.Rows L2
theorem sameDp {K : PySem.W.Frag} {H H' : Hp} (s : Same H H') {a : Addr} {xs : List V} (h : SqT K H a xs) : SqT K H' a xs := by
  rcases h with (h | ⟨o, h⟩) | h
  · exact .inl (.inl (s _ _ h))
  · exact .inl (.inr ⟨o, s _ _ h⟩)
  · exact .inr h
mutual
theorem dKeep {K : PySem.W.Frag} {H H' : Hp} (s : Same H H') : ∀ {v : V} {d : PyData}, Dp K H v d → Dp K H' v d
  | _, _, .non => .non
  | _, _, .bl b => .bl b
  | _, _, .int i => .int i
  | _, _, .str x => .str x
  | _, _, .lst h k => .lst (s.seq h) (dsKeep s k)
  | _, _, .tup h k => .tup (sameDp s h) (dsKeep s k)
theorem dsKeep {K : PySem.W.Frag} {H H' : Hp} (s : Same H H') : ∀ {vs : List V} {ds : List PyData}, DpAll K H vs ds → DpAll K H' vs ds
  | _, _, .nil => .nil
  | _, _, .cons a b => .cons (dKeep s a) (dsKeep s b)
end
theorem dsLen {K : PySem.W.Frag} {H : Hp} : ∀ {xs : List V} {ds : List PyData}, DpAll K H xs ds → xs.length = ds.length
  | _, _, .nil => rfl
  | _, _, .cons _ b => congrArg Nat.succ (dsLen b)
theorem dsApp {K : PySem.W.Frag} {H : Hp} : ∀ {xs ys : List V} {ds es : List PyData}, DpAll K H xs ds → DpAll K H ys es → DpAll K H (xs ++ ys) (ds ++ es)
  | _, _, _, _, .nil, h => h
  | _, _, _, _, .cons a b, h => .cons a (dsApp b h)
theorem dsAt {K : PySem.W.Frag} {H : Hp} : ∀ {xs : List V} {ds : List PyData}, DpAll K H xs ds → ∀ (i : Nat) (x : V), xs[i]? = some x → ∃ d, ds[i]? = some d ∧ Dp K H x d
  | _, _, .nil, i, x, h => by simp at h
  | _, _, .cons (d := d) a b, 0, x, h => by
    simp at h
    subst h
    exact ⟨d, rfl, a⟩
  | _, _, .cons a b, i + 1, x, h => dsAt b i x (by simpa using h)
theorem dsDrop {K : PySem.W.Frag} {H : Hp} : ∀ (n : Nat) {xs : List V} {ds : List PyData}, DpAll K H xs ds → DpAll K H (xs.drop n) (ds.drop n)
  | 0, _, _, h => h
  | n + 1, _, _, .nil => .nil
  | n + 1, _, _, .cons _ b => dsDrop n b
theorem dsTake {K : PySem.W.Frag} {H : Hp} : ∀ (n : Nat) {xs : List V} {ds : List PyData}, DpAll K H xs ds → DpAll K H (xs.take n) (ds.take n)
  | 0, _, _, _ => .nil
  | n + 1, _, _, .nil => .nil
  | n + 1, _, _, .cons a b => .cons a (dsTake n b)
theorem dsRev {K : PySem.W.Frag} {H : Hp} : ∀ {xs : List V} {ds : List PyData}, DpAll K H xs ds → DpAll K H xs.reverse ds.reverse
  | _, _, .nil => .nil
  | _, _, .cons a b => by
    rw [List.reverse_cons, List.reverse_cons]
    exact dsApp (dsRev b) (.cons a .nil)
/-- an expression that makes this data, and changes nothing -/
def DE (K : PySem.W.Frag) (t : TE) (d : PyData) : Prop := ∀ (σ : L2.St) (H : Hp) (Q : VK), (∀ (v : V) (H' : Hp), Same H H' → Dp K H' v d → Q v H') → t σ H Q
def DA (K : PySem.W.Frag) (t : TA) (ds : List PyData) : Prop := ∀ (σ : L2.St) (H : Hp) (Q : List V → Hp → Prop), (∀ (vs : List V) (H' : Hp), Same H H' → DpAll K H' vs ds → Q vs H') → t σ H Q
/-- a new list of this data -/
def DL (K : PySem.W.Frag) (t : TE) (ds : List PyData) : Prop := ∀ (σ : L2.St) (H : Hp) (Q : VK), (∀ (l : Addr) (vs : List V) (H' : Hp), Same H H' → H l = none → H' l = some (.lst vs) → DpAll K H' vs ds → Q (.ref l) H') → t σ H Q
section
variable {K : PySem.W.Frag} {t u : TE} {ta : TA} {d : PyData} {ds es : List PyData}
theorem de_non : DE K (tC .non) .none := fun _ H _ q => q _ H (Same.refl H) .non
theorem de_bl {b : Bool} : DE K (tC (.bl b)) (.bool b) := fun _ H _ q => q _ H (Same.refl H) (.bl b)
theorem de_int {i : Int} : DE K (tC (.int i)) (.int i) := fun _ H _ q => q _ H (Same.refl H) (.int i)
theorem de_str {x : Str} : DE K (tC (.str x)) (.str x) := fun _ H _ q => q _ H (Same.refl H) (.str x)
theorem de_neg {i : Int} : DE K (tUn (rU fun i => .int (-i)) (tC (.int i))) (.int (-i)) := fun _ H _ q => ⟨i, rfl, q _ H (Same.refl H) (.int _)⟩
theorem de_big {i j : Int} (h : CPow i j := by exact ⟨by decide, by decide, by decide⟩) : DE K (tOp (rI CPow fun i j => .int (i ^ j.toNat)) (tC (.int i)) (tC (.int j))) (.int (i ^ j.toNat)) := fun _ H _ q => ⟨i, j, rfl, rfl, h, q _ H (Same.refl H) (.int _)⟩
theorem da_nil : DA K tNil [] := fun _ H _ q => q _ H (Same.refl H) .nil
theorem da_cons (h : DE K t d) (k : DA K ta ds) : DA K (tCons t ta) (d :: ds) := fun σ H Q q => h σ H _ fun v H1 s1 d1 => k σ H1 _ fun vs H2 s2 d2 => q _ H2 (s1.trans s2) (.cons (dKeep s2 d1) d2)
theorem de_tup (h : DA K ta ds) (few : ds.length ≤ 1000) : DE K (tTup ta) (.tuple ds) := fun σ H Q q => h σ H _ fun vs H1 s1 d1 => by
  refine ⟨by rw [dsLen d1]; exact Nat.le_trans few (by decide), fun p np => ?_⟩
  have s2 := same_new (o := .tup vs) np
  exact q _ _ (s1.trans s2) (.tup (.inl (.inl upd_same)) (dsKeep s2 d1))
theorem dl_lst (h : DA K ta ds) (few : ds.length ≤ 1000) : DL K (tLst ta) ds := fun σ H Q q => h σ H _ fun vs H1 s1 d1 => by
  refine ⟨by rw [dsLen d1]; exact Nat.le_trans few (by decide), fun p np => ?_⟩
  have s2 := same_new (o := .lst vs) np
  exact q p vs _ (s1.trans s2) (s1.free np) upd_same (dsKeep s2 d1)
theorem de_lst (h : DA K ta ds) (few : ds.length ≤ 1000) : DE K (tLst ta) (.list ds) := fun σ H Q q => dl_lst h few σ H Q fun l vs H' s _ e d => q _ H' s (.lst (.inl (.inl e)) d)
theorem dl_cat (h : DL K t ds) (k : DL K u es) (few : ds.length + es.length ≤ 1000) : DL K (tOp rCat t u) (ds ++ es) := fun σ H Q q => h σ H _ fun l vs H1 s1 n1 e1 d1 => k σ H1 _ fun r ws H2 s2 n2 e2 d2 => by
  refine ⟨l, r, vs, ws, rfl, rfl, s2 _ _ e1, e2, by rw [dsLen d1, dsLen d2]; exact Nat.le_trans few (by decide), fun p np => ?_⟩
  have s3 := same_new (o := .lst (vs ++ ws)) np
  exact q p _ _ ((s1.trans s2).trans s3) ((s1.trans s2).free np) upd_same (dsKeep s3 (dsApp (dsKeep s2 d1) d2))
theorem dl_grow {l : Addr} {vs : List V} {H0 : Hp} {Q : VK} {σ : L2.St} (e : H0 l = some (.lst vs)) (d1 : DpAll K H0 vs ds) (ht : ∀ R : VK, R (.ref l) H0 → t σ H0 R) (k : DL K u es) (few : ds.length + es.length ≤ 1000)
    (q : ∀ (p : Addr) (ws : List V) (H' : Hp), Same H0 H' → H0 p = none → H' p = some (.lst ws) → DpAll K H' ws (ds ++ es) → Q (.ref p) H') : tOp rCat t u σ H0 Q := ht _ (k σ H0 _ fun r ws H2 s2 n2 e2 d2 => by
  refine ⟨l, r, vs, ws, rfl, rfl, s2 _ _ e, e2, by rw [dsLen d1, dsLen d2]; exact Nat.le_trans few (by decide), fun p np => ?_⟩
  have s3 := same_new (o := .lst (vs ++ ws)) np
  exact q p _ _ (s2.trans s3) (s2.free np) upd_same (dsKeep s3 (dsApp (dsKeep s2 d1) d2)))
end
/-! ### isinstance of a tuple -/
def tupB : PyData → Bool
  | .tuple _ => true
  | _ => false
theorem kit_tup {K : PySem.W.Frag} {d : PyData} : PySem.W.kitOne K (.type (tyName d)) (.type "tuple") = some (tupB d) := by
  cases d with
  | none => exact kit_ty (K := K) (a := "NoneType") (b := "tuple") (r := false) (by decide +kernel)
  | bool _ => exact kit_ty (K := K) (a := "bool") (b := "tuple") (r := false) (by decide +kernel)
  | int _ => exact kit_ty (K := K) (a := "int") (b := "tuple") (r := false) (by decide +kernel)
  | str _ => exact kit_ty (K := K) (a := "str") (b := "tuple") (r := false) (by decide +kernel)
  | list _ => exact kit_ty (K := K) (a := "list") (b := "tuple") (r := false) (by decide +kernel)
  | tuple _ => exact kit_ty (K := K) (a := "tuple") (b := "tuple") (r := true) (by decide +kernel)
  | dict _ => exact kit_ty (K := K) (a := "dict") (b := "tuple") (r := false) (by decide +kernel)
end Kn


/-! Kn: how large data is. -/
namespace Kn
open PySem PySem.Spec PyProof.Rows L2
mutual
def goodD : PyData → Bool
  | .none => true
  | .bool _ => true
  | .int i => decide (i.natAbs < 10 ^ 60)
  | .str x => x.cps.toList.all fun c => decide (c < 128)
  | .list ds => goodDs ds
  | .tuple ds => goodDs ds
  | .dict _ => false
def goodDs : List PyData → Bool
  | [] => true
  | d :: r => goodD d && goodDs r
end
mutual
def nodesD : PyData → Nat
  | .none => 1
  | .bool _ => 1
  | .int _ => 1
  | .str x => 1 + x.length
  | .list ds => 1 + nodesDs ds
  | .tuple ds => 1 + nodesDs ds
  | .dict _ => 1
def nodesDs : List PyData → Nat
  | [] => 0
  | d :: r => nodesD d + nodesDs r
end
theorem good_app : ∀ a b : List PyData, goodDs (a ++ b) = (goodDs a && goodDs b)
  | [], b => by rw [List.nil_append]; show _ = (true && goodDs b); rw [Bool.true_and]
  | d :: r, b => by
    show (goodD d && goodDs (r ++ b)) = (goodD d && goodDs r && goodDs b)
    rw [good_app r b, Bool.and_assoc]
theorem nodes_app : ∀ a b : List PyData, nodesDs (a ++ b) = nodesDs a + nodesDs b
  | [], b => by rw [List.nil_append]; show _ = 0 + nodesDs b; rw [Nat.zero_add]
  | d :: r, b => by
    show nodesD d + nodesDs (r ++ b) = nodesD d + nodesDs r + nodesDs b
    rw [nodes_app r b, Nat.add_assoc]
theorem depth_app : ∀ a b : List PyData, PyData.depthAll (a ++ b) = max (PyData.depthAll a) (PyData.depthAll b)
  | [], b => by rw [List.nil_append]; show _ = max 0 (PyData.depthAll b); rw [Nat.zero_max]
  | d :: r, b => by
    show max d.depth (PyData.depthAll (r ++ b)) = max (max d.depth (PyData.depthAll r)) (PyData.depthAll b)
    rw [depth_app r b, Nat.max_assoc]
theorem nodes_len : ∀ ds : List PyData, ds.length ≤ nodesDs ds
  | [] => Nat.le_refl _
  | d :: r => by
    have h := nodes_len r
    have p : 1 ≤ nodesD d := by
      cases d <;> first | exact Nat.le_refl 1 | exact Nat.le_add_right 1 _
    show r.length + 1 ≤ nodesD d + nodesDs r
    omega
/-- few, good and flat enough -/
structure Tm (n k : Nat) (ds : List PyData) : Prop where
  g : goodDs ds = true
  n : nodesDs ds ≤ n
  d : PyData.depthAll ds ≤ k
theorem Tm.mono {n k n' k' : Nat} {ds : List PyData} (h : Tm n k ds) (a : n ≤ n') (b : k ≤ k') : Tm n' k' ds := ⟨h.g, Nat.le_trans h.n a, Nat.le_trans h.d b⟩
theorem Tm.app {n m k : Nat} {a b : List PyData} (h : Tm n k a) (j : Tm m k b) : Tm (n + m) k (a ++ b) :=
  ⟨by rw [good_app, h.g, j.g]; rfl, by rw [nodes_app]; exact Nat.add_le_add h.n j.n, by rw [depth_app]; exact Nat.max_le.mpr ⟨h.d, j.d⟩⟩
theorem Tm.nil (n k : Nat) : Tm n k [] := ⟨rfl, Nat.zero_le _, Nat.zero_le _⟩
theorem Tm.split {n k : Nat} {a b : List PyData} (h : Tm n k (a ++ b)) : ∃ x y, x + y ≤ n ∧ Tm x k a ∧ Tm y k b := by
  have g := h.g
  rw [good_app] at g
  obtain ⟨g1, g2⟩ := Bool.and_eq_true_iff.mp g
  have nn := h.n
  rw [nodes_app] at nn
  have dd := h.d
  rw [depth_app] at dd
  obtain ⟨d1, d2⟩ := Nat.max_le.mp dd
  exact ⟨_, _, nn, ⟨g1, Nat.le_refl _, d1⟩, ⟨g2, Nat.le_refl _, d2⟩⟩
theorem Tm.cut {n k : Nat} {ds : List PyData} (h : Tm n k ds) (i : Nat) : ∃ x y, x + y ≤ n ∧ Tm x k (ds.take i) ∧ Tm y k (ds.drop i) := Tm.split (by rw [List.take_append_drop]; exact h)
theorem Tm.take {n k : Nat} {ds : List PyData} (h : Tm n k ds) (i : Nat) : Tm n k (ds.take i) := by
  obtain ⟨x, y, l, a, _⟩ := h.cut i
  exact a.mono (by omega) (Nat.le_refl _)
theorem Tm.drop {n k : Nat} {ds : List PyData} (h : Tm n k ds) (i : Nat) : Tm n k (ds.drop i) := by
  obtain ⟨x, y, l, _, b⟩ := h.cut i
  exact b.mono (by omega) (Nat.le_refl _)
theorem Tm.rev {n k : Nat} : ∀ {ds : List PyData}, Tm n k ds → Tm n k ds.reverse := by
  have all : ∀ ds : List PyData, goodDs ds.reverse = goodDs ds ∧ nodesDs ds.reverse = nodesDs ds ∧ PyData.depthAll ds.reverse = PyData.depthAll ds := by
    intro ds
    induction ds with
    | nil => exact ⟨rfl, rfl, rfl⟩
    | cons d r ih =>
      obtain ⟨a, b, c⟩ := ih
      rw [List.reverse_cons, good_app, nodes_app, depth_app, a, b, c]
      refine ⟨?_, ?_, ?_⟩
      · show (goodDs r && (goodD d && true)) = (goodD d && goodDs r)
        rw [Bool.and_true, Bool.and_comm]
      · show nodesDs r + (nodesD d + 0) = nodesD d + nodesDs r
        omega
      · show max (PyData.depthAll r) (max d.depth 0) = max d.depth (PyData.depthAll r)
        rw [Nat.max_zero, Nat.max_comm]
  intro ds h
  obtain ⟨a, b, c⟩ := all ds
  exact ⟨by rw [a]; exact h.g, by rw [b]; exact h.n, by rw [c]; exact h.d⟩
theorem Tm.one {n k : Nat} {d : PyData} (g : goodD d = true) (hn : nodesD d ≤ n) (hk : d.depth ≤ k) : Tm n k [d] := by
  refine ⟨?_, ?_, ?_⟩
  · show (goodD d && true) = true
    rw [g]
    rfl
  · show nodesD d + 0 ≤ n
    omega
  · show max d.depth 0 ≤ k
    omega
theorem Tm.get {n k : Nat} {ds : List PyData} (h : Tm n k ds) {i : Nat} {d : PyData} (e : ds[i]? = some d) : goodD d = true ∧ nodesD d ≤ n ∧ d.depth ≤ k := by
  have q := (h.drop i).take 1
  have e2 : (ds.drop i).take 1 = [d] := by
    rw [List.take_one, List.head?_drop, e]
    rfl
  rw [e2] at q
  obtain ⟨g, b, c⟩ := q
  refine ⟨?_, ?_, ?_⟩
  · have g : (goodD d && true) = true := g
    rw [Bool.and_true] at g
    exact g
  · have b : nodesD d + 0 ≤ n := b
    omega
  · have c : max d.depth 0 ≤ k := c
    omega
end Kn


/-! Kn: what good data shows, and that it can be compared. -/
namespace Kn
open PySem PySem.Spec PyProof.Rows L2
theorem ascii_fit {x : Str} (h : (x.cps.toList.all fun c => decide (c < 128)) = true) : Fit x.length x := ⟨Nat.le_refl _, fun c hc => Nat.lt_trans (of_decide_eq_true (List.all_eq_true.mp h c hc)) (by decide)⟩
theorem sum_map {ds : List Str} : (ds.map (·.length)).sum = (ds.map (·.length)).sum := rfl
mutual
theorem good_shown : ∀ d : PyData, goodD d = true → d.showable = true ∧ d.hasDict = false ∧ d.shown.length + 2 ≤ 80 * nodesD d
  | .none, _ => ⟨rfl, rfl, by decide +kernel⟩
  | .bool b, _ => by
    refine ⟨rfl, rfl, ?_⟩
    cases b <;> decide +kernel
  | .int i, h => by
    have h : i.natAbs < 10 ^ 60 := of_decide_eq_true h
    refine ⟨by show decide _ = true; exact decide_eq_true (fee_log h), rfl, ?_⟩
    have q : (feeT i).length ≤ 61 := (feeT_fit h).1
    show (feeT i).length + 2 ≤ 80 * 1
    omega
  | .str x, h => by
    refine ⟨rfl, rfl, ?_⟩
    have q := StrLaws.reprText_len x (ascii_fit h).2
    show (reprText x).length + 2 ≤ 80 * (1 + x.length)
    omega
  | .list ds, h => by
    obtain ⟨a, b, c, e⟩ := good_all ds h
    refine ⟨a, b, ?_⟩
    have q := listText_len_le (PyData.shownAll ds)
    rw [e] at q
    show (listText (PyData.shownAll ds)).length + 2 ≤ 80 * (1 + nodesDs ds)
    omega
  | .tuple ds, h => by
    obtain ⟨a, b, c, e⟩ := good_all ds h
    refine ⟨a, b, ?_⟩
    have q := tupleText_len_le (PyData.shownAll ds)
    rw [e] at q
    show (tupleText (PyData.shownAll ds)).length + 2 ≤ 80 * (1 + nodesDs ds)
    omega
  | .dict _, h => by cases h
theorem good_all : ∀ ds : List PyData, goodDs ds = true → PyData.showableAll ds = true ∧ PyData.hasDictAll ds = false ∧ ((PyData.shownAll ds).map (·.length)).sum + 2 * ds.length ≤ 80 * nodesDs ds ∧ (PyData.shownAll ds).length = ds.length
  | [], _ => ⟨rfl, rfl, Nat.zero_le _, rfl⟩
  | d :: r, h => by
    have h : (goodD d && goodDs r) = true := h
    obtain ⟨h1, h2⟩ := Bool.and_eq_true_iff.mp h
    obtain ⟨a1, b1, c1⟩ := good_shown d h1
    obtain ⟨a2, b2, c2, e2⟩ := good_all r h2
    refine ⟨?_, ?_, ?_, ?_⟩
    · show (d.showable && PyData.showableAll r) = true
      rw [a1, a2]
      rfl
    · show (d.hasDict || PyData.hasDictAll r) = false
      rw [b1, b2]
      rfl
    · show ((d.shown :: PyData.shownAll r).map (·.length)).sum + 2 * (r.length + 1) ≤ 80 * (nodesD d + nodesDs r)
      rw [List.map_cons, List.sum_cons]
      omega
    · show (d.shown :: PyData.shownAll r).length = r.length + 1
      rw [List.length_cons, e2]
end
mutual
theorem good_lay : ∀ d : PyData, goodD d = true → d.canLay0 = true
  | .none, _ => rfl
  | .bool _, _ => rfl
  | .int _, _ => rfl
  | .str x, h => by
    show x.cps.all (· < 0x110000) = true
    rw [← Array.all_toList]
    exact List.all_eq_true.mpr fun c hc => decide_eq_true (Nat.lt_trans (of_decide_eq_true (List.all_eq_true.mp h c hc)) (by decide))
  | .list ds, h => good_lays ds h
  | .tuple ds, h => good_lays ds h
  | .dict _, h => by cases h
theorem good_lays : ∀ ds : List PyData, goodDs ds = true → PyData.canLayAll0 ds = true
  | [], _ => rfl
  | d :: r, h => by
    have h : (goodD d && goodDs r) = true := h
    obtain ⟨h1, h2⟩ := Bool.and_eq_true_iff.mp h
    show (d.canLay0 && PyData.canLayAll0 r) = true
    rw [good_lay d h1, good_lays r h2]
    rfl
end
theorem good_shaped {d : PyData} (h : goodD d = true) (l : d.depth ≤ 64) : SeqAt.shaped d = true := by
  unfold SeqAt.shaped
  rw [good_lay d h, decide_eq_true l]
  rfl
end Kn


namespace Kn
open PySem PySem.Spec PyProof.Rows L2
abbrev nStr : List Str := ["_law_feed", "_law_some"]
theorem scStr : FnScope nStr ["_law_feed"] (defScope (topS 27)) := ⟨rfl, rfl, rfl, by decide +kernel, rfl, by decide +kernel, by decide +kernel⟩
def sgA : List PyData := [.none, .bool true, .bool false, .int 0, .int 1, .int 2, .int (-1), .int (10 ^ (59 : Int).toNat), .str "", .str "a", .str "b", .str "zz", .str "abcdefgh", .str "abcdefghi", .str "A", .str "a b", .str "-"]
def sgB : List PyData := [.str "a,b", .str "on", .str "came", .tuple [], .list [], .tuple [.str "a"], .tuple [.str "a", .str "b"], .tuple [.str "b", .str "a"], .tuple [.str "a", .str "a"], .list [.str "a"], .tuple [.str "a", .int 0]]
def sgC : List PyData := [.tuple [.str "a", .bool true], .tuple [.str "a", .int (-1)], .tuple [.str "a", .int 1, .bool false, .tuple []], .tuple [.str "a", .int 1, .bool false, .tuple [.str "a"]], .tuple [.str "a", .int 0, .bool false, .tuple []]]
def sgD : List PyData := [.tuple [.str "a", .int 1, .int 0, .tuple []], .tuple [.tuple [.str "a", .int 0], .tuple [.str "b", .int 1]], .tuple [.str "note", .str "a"], .tuple [.str "guard", .str "on"], .tuple [.tuple [.str "a", .int 1, .bool false, .tuple []]]]
def strangeD : List PyData := sgA ++ sgB ++ sgC ++ sgD
theorem strange_ok : ∀ d ∈ strangeD, goodD d = true ∧ nodesD d ≤ 10 ∧ d.depth ≤ 3 := by
  have all : (strangeD.all fun d => goodD d && decide (nodesD d ≤ 10) && decide (d.depth ≤ 3)) = true := by decide +kernel
  intro d hd
  obtain ⟨h1, h2⟩ := Bool.and_eq_true_iff.mp (List.all_eq_true.mp all d hd)
  obtain ⟨h3, h4⟩ := Bool.and_eq_true_iff.mp h1
  exact ⟨h3, of_decide_eq_true h4, of_decide_eq_true h2⟩
theorem dp_in {K : PySem.W.Frag} {H : Hp} : ∀ {xs : List V} {ds : List PyData}, DpAll K H xs ds → ∀ x ∈ xs, ∃ d ∈ ds, Dp K H x d
  | _, _, .nil, x, hx => by cases hx
  | _, _, .cons a b, x, hx => by
    rcases List.mem_cons.mp hx with rfl | hx
    · exact ⟨_, List.mem_cons_self .., a⟩
    · obtain ⟨d, hd, q⟩ := dp_in b x hx
      exact ⟨d, List.mem_cons_of_mem _ hd, q⟩
mutual
theorem dG {K : PySem.W.Frag} {H H' : Hp} (hl : ∀ a xs, SqL K H a xs → SqL K H' a xs) (ht : ∀ a xs, SqT K H a xs → SqT K H' a xs) : ∀ {v : V} {d : PyData}, Dp K H v d → Dp K H' v d
  | _, _, .non => .non
  | _, _, .bl b => .bl b
  | _, _, .int i => .int i
  | _, _, .str x => .str x
  | _, _, .lst h k => .lst (hl _ _ h) (dGs hl ht k)
  | _, _, .tup h k => .tup (ht _ _ h) (dGs hl ht k)
theorem dGs {K : PySem.W.Frag} {H H' : Hp} (hl : ∀ a xs, SqL K H a xs → SqL K H' a xs) (ht : ∀ a xs, SqT K H a xs → SqT K H' a xs) : ∀ {vs : List V} {ds : List PyData}, DpAll K H vs ds → DpAll K H' vs ds
  | _, _, .nil => .nil
  | _, _, .cons a b => .cons (dG hl ht a) (dGs hl ht b)
end
theorem dFd {K : PySem.W.Frag} {f a : Addr} {ns : List Int} {H H' : Hp} {c : Nat} (d : Fd f a ns H c) (k : Keep f H H') {v : V} {x : PyData} (h : Dp K H v x) : Dp K H' v x := dG (fun _ _ q => seqK d k q) (fun _ _ q => tupT (ts_fd d k) q) h
theorem dsFd {K : PySem.W.Frag} {f a : Addr} {ns : List Int} {H H' : Hp} {c : Nat} (d : Fd f a ns H c) (k : Keep f H H') {vs : List V} {ds : List PyData} (h : DpAll K H vs ds) : DpAll K H' vs ds := dGs (fun _ _ q => seqK d k q) (fun _ _ q => tupT (ts_fd d k) q) h
def spStrange (K : PySem.W.Frag) : Sp := fun vs H Q _ => ∃ (f a : Addr) (ns : List Int) (c : Nat), vs = [.ref f] ∧ Fd f a ns H c ∧ c < 90000 ∧
  ∀ (v : V) (d : PyData) (H' : Hp), d ∈ strangeD → Dp K H' v d → Keep f H H' → Fd f a ns H' (c + 1) → Q v H'
section
variable {P : Program} {w : World} {K : PySem.W.Frag} {mg : Str → Option Value} {base : Heap}
theorem ok_strange {g gA : Addr} {fd fdA : FuncData} (F : Fun K "_law_strange" "_law_strange" (topS 27) g fd) (FA : Fun K "_law_any" "_law_any" (topS 24) gA fdA) (bA : Binds K fdA ["_law_feed", "_law_some"] []) (mA : mg "_law_any" = some (.ref gA))
    (GA : FnOk P w K mg base CX0 2 gA fdA ["_law_feed", "_law_some"] (spAny K)) : FnOk P w K mg base CX0 3 g fd ["_law_feed"] (spStrange K) := by
  refine F.ok scStr (fun vs H Q E h => ?_) (fun cdv A outer s H vs Q E hr h => ?_)
  · obtain ⟨f, a, ns, c, rfl, _⟩ := h
    rfl
  · obtain ⟨f, a, ns, c, rfl, fd0, hc, q⟩ := h
    refine ⟨_, pss_cons (ps_set (i := 1) scStr.nd rfl (.inl rfl) (pe_lst (pa_cons pe_non (pa_cons pe_bl (pa_cons pe_bl (pa_cons pe_int (pa_cons pe_int (pa_cons pe_int (pa_cons (pe_un un_neg pe_int) (pa_cons (pe_op op_pow pe_int pe_int) (pa_cons pe_str (pa_cons pe_str (pa_cons pe_str (pa_cons pe_str (pa_cons pe_str (pa_cons pe_str (pa_cons pe_str (pa_cons pe_str (pa_cons pe_str pa_nil)))))))))))))))))))
      (pss_cons (ps_set (i := 1) scStr.nd rfl (.inl rfl) (pe_op op_cat (pv 1) (pe_lst (pa_cons pe_str (pa_cons pe_str (pa_cons pe_str (pa_cons (pe_tup pa_nil) (pa_cons (pe_lst pa_nil) (pa_cons (pe_tup (pa_cons pe_str pa_nil)) (pa_cons (pe_tup (pa_cons pe_str (pa_cons pe_str pa_nil))) (pa_cons (pe_tup (pa_cons pe_str (pa_cons pe_str pa_nil))) (pa_cons (pe_tup (pa_cons pe_str (pa_cons pe_str pa_nil))) (pa_cons (pe_lst (pa_cons pe_str pa_nil)) (pa_cons (pe_tup (pa_cons pe_str (pa_cons pe_int pa_nil))) pa_nil))))))))))))))
      (pss_cons (ps_set (i := 1) scStr.nd rfl (.inl rfl) (pe_op op_cat (pv 1) (pe_lst (pa_cons (pe_tup (pa_cons pe_str (pa_cons pe_bl pa_nil))) (pa_cons (pe_tup (pa_cons pe_str (pa_cons (pe_un un_neg pe_int) pa_nil))) (pa_cons (pe_tup (pa_cons pe_str (pa_cons pe_int (pa_cons pe_bl (pa_cons (pe_tup pa_nil) pa_nil))))) (pa_cons (pe_tup (pa_cons pe_str (pa_cons pe_int (pa_cons pe_bl (pa_cons (pe_tup (pa_cons pe_str pa_nil)) pa_nil))))) (pa_cons (pe_tup (pa_cons pe_str (pa_cons pe_int (pa_cons pe_bl (pa_cons (pe_tup pa_nil) pa_nil))))) pa_nil))))))))
      (pss_cons (ps_set (i := 1) scStr.nd rfl (.inl rfl) (pe_op op_cat (pv 1) (pe_lst (pa_cons (pe_tup (pa_cons pe_str (pa_cons pe_int (pa_cons pe_int (pa_cons (pe_tup pa_nil) pa_nil))))) (pa_cons (pe_tup (pa_cons (pe_tup (pa_cons pe_str (pa_cons pe_int pa_nil))) (pa_cons (pe_tup (pa_cons pe_str (pa_cons pe_int pa_nil))) pa_nil))) (pa_cons (pe_tup (pa_cons pe_str (pa_cons pe_str pa_nil))) (pa_cons (pe_tup (pa_cons pe_str (pa_cons pe_str pa_nil))) (pa_cons (pe_tup (pa_cons (pe_tup (pa_cons pe_str (pa_cons pe_int (pa_cons pe_bl (pa_cons (pe_tup pa_nil) pa_nil))))) pa_nil)) pa_nil))))))))
      (pss_one (ps_ret (pe_call GA hr (by rfl) mA FA.kp bA .nil pass0 (pa_cons (pv 0) (pa_cons (pv 1) pa_nil)))))))), ?_⟩
    refine seq_asg ((dl_lst (K := K) (da_cons de_non (da_cons de_bl (da_cons de_bl (da_cons de_int (da_cons de_int (da_cons de_int (da_cons de_neg (da_cons de_big (da_cons de_str (da_cons de_str (da_cons de_str (da_cons de_str (da_cons de_str (da_cons de_str (da_cons de_str (da_cons de_str (da_cons de_str da_nil))))))))))))))))) (show 17 ≤ 1000 by decide)) _ _ _ fun l0 vs0 H0 s0 n0 e0 d0 => ?_)
    dsimp only [gName]
    refine seq_asg (dl_grow e0 d0 (fun R r => ⟨_, rfl, r⟩) (dl_lst (K := K) (da_cons de_str (da_cons de_str (da_cons de_str (da_cons (de_tup da_nil (show 0 ≤ 1000 by decide)) (da_cons (de_lst da_nil (show 0 ≤ 1000 by decide)) (da_cons (de_tup (da_cons de_str da_nil) (show 1 ≤ 1000 by decide)) (da_cons (de_tup (da_cons de_str (da_cons de_str da_nil)) (show 2 ≤ 1000 by decide)) (da_cons (de_tup (da_cons de_str (da_cons de_str da_nil)) (show 2 ≤ 1000 by decide)) (da_cons (de_tup (da_cons de_str (da_cons de_str da_nil)) (show 2 ≤ 1000 by decide)) (da_cons (de_lst (da_cons de_str da_nil) (show 1 ≤ 1000 by decide)) (da_cons (de_tup (da_cons de_str (da_cons de_int da_nil)) (show 2 ≤ 1000 by decide)) da_nil))))))))))) (show 11 ≤ 1000 by decide)) (show 28 ≤ 1000 by decide) fun l1 vs1 H1 s1 n1 e1 d1 => ?_)
    dsimp only [gName]
    refine seq_asg (dl_grow e1 d1 (fun R r => ⟨_, rfl, r⟩) (dl_lst (K := K) (da_cons (de_tup (da_cons de_str (da_cons de_bl da_nil)) (show 2 ≤ 1000 by decide)) (da_cons (de_tup (da_cons de_str (da_cons de_neg da_nil)) (show 2 ≤ 1000 by decide)) (da_cons (de_tup (da_cons de_str (da_cons de_int (da_cons de_bl (da_cons (de_tup da_nil (show 0 ≤ 1000 by decide)) da_nil)))) (show 4 ≤ 1000 by decide)) (da_cons (de_tup (da_cons de_str (da_cons de_int (da_cons de_bl (da_cons (de_tup (da_cons de_str da_nil) (show 1 ≤ 1000 by decide)) da_nil)))) (show 4 ≤ 1000 by decide)) (da_cons (de_tup (da_cons de_str (da_cons de_int (da_cons de_bl (da_cons (de_tup da_nil (show 0 ≤ 1000 by decide)) da_nil)))) (show 4 ≤ 1000 by decide)) da_nil))))) (show 5 ≤ 1000 by decide)) (show 33 ≤ 1000 by decide) fun l2 vs2 H2 s2 n2 e2 d2 => ?_)
    dsimp only [gName]
    refine seq_asg (dl_grow e2 d2 (fun R r => ⟨_, rfl, r⟩) (dl_lst (K := K) (da_cons (de_tup (da_cons de_str (da_cons de_int (da_cons de_int (da_cons (de_tup da_nil (show 0 ≤ 1000 by decide)) da_nil)))) (show 4 ≤ 1000 by decide)) (da_cons (de_tup (da_cons (de_tup (da_cons de_str (da_cons de_int da_nil)) (show 2 ≤ 1000 by decide)) (da_cons (de_tup (da_cons de_str (da_cons de_int da_nil)) (show 2 ≤ 1000 by decide)) da_nil)) (show 2 ≤ 1000 by decide)) (da_cons (de_tup (da_cons de_str (da_cons de_str da_nil)) (show 2 ≤ 1000 by decide)) (da_cons (de_tup (da_cons de_str (da_cons de_str da_nil)) (show 2 ≤ 1000 by decide)) (da_cons (de_tup (da_cons (de_tup (da_cons de_str (da_cons de_int (da_cons de_bl (da_cons (de_tup da_nil (show 0 ≤ 1000 by decide)) da_nil)))) (show 4 ≤ 1000 by decide)) da_nil) (show 1 ≤ 1000 by decide)) da_nil))))) (show 5 ≤ 1000 by decide)) (show 38 ≤ 1000 by decide) fun l3 vs3 H3 s3 n3 e3 d3 => ?_)
    dsimp only [gName]
    have sA := (((s0.trans s1).trans s2).trans s3)
    have fdA := fd0.same sA
    have len : vs3.length = 38 := dsLen d3
    refine ⟨.ref f, rfl, .ref l3, rfl, f, a, l3, ns, c, vs3, rfl, fdA, by omega, .inl (.inl e3), by omega, by omega, fun x G hx k fdG => ?_⟩
    obtain ⟨d, hd, dp⟩ := dp_in d3 x hx
    refine q x d G ?_ (dFd fdA k dp) ((keep_same sA).trans k) fdG
    exact hd
end
end Kn


/-! Kn: parts of tuples of data, and two of them together; parts of texts. -/
namespace Kn
open PySem PySem.Spec PyProof.Rows L2
section
variable {K : PySem.W.Frag} {H : Hp} {Q : VK} {r r2 : V} {ds es : List PyData}
theorem slA_any {lo hi : Option Int} (h : Dp K H r (.tuple ds))
    (q : ∀ (r' : V) (H' : Hp), Same H H' → Dp K H' r' (.tuple ((ds.drop (HT.sIx ds.length 0 lo)).take (HT.sIx ds.length ds.length hi - HT.sIx ds.length 0 lo))) → Q r' H') : rSlA K r lo hi H Q := by
  cases h with
  | tup ht hd =>
    rename_i a xs
    have l := dsLen hd
    refine ⟨a, xs, rfl, ht, fun w => ?_, fun _ p np => ?_⟩
    · rw [l] at w
      refine q _ H (Same.refl H) ?_
      rw [w.1, w.2, List.drop_zero, Nat.sub_zero, List.take_length]
      exact .tup ht hd
    · have s := same_new (o := .tup (cutV xs lo hi)) np
      refine q _ _ s (.tup (.inl (.inl upd_same)) ?_)
      unfold cutV
      rw [l]
      exact dsKeep (same_new np) (dsTake _ (dsDrop _ hd))
theorem slA_take {k : Nat} (h : Dp K H r (.tuple ds)) (hk : k ≤ ds.length) (q : ∀ (r' : V) (H' : Hp), Same H H' → Dp K H' r' (.tuple (ds.take k)) → Q r' H') : rSlA K r none (some (k : Int)) H Q :=
  slA_any h fun r' H' s d => q r' H' s (by
    rw [HT.sIx_none, HT.sIx_nat, Nat.min_eq_left hk, List.drop_zero, Nat.sub_zero] at d
    exact d)
theorem slA_drop {k : Nat} (h : Dp K H r (.tuple ds)) (q : ∀ (r' : V) (H' : Hp), Same H H' → Dp K H' r' (.tuple (ds.drop k)) → Q r' H') : rSlA K r (some (k : Int)) none H Q :=
  slA_any h fun r' H' s d => q r' H' s (by
    rw [HT.sIx_none, HT.sIx_nat, List.take_of_length_le (by rw [List.length_drop]; exact Nat.le_refl _)] at d
    by_cases l : k ≤ ds.length
    · rw [Nat.min_eq_left l] at d
      exact d
    · rw [Nat.min_eq_right (by omega), List.drop_of_length_le (Nat.le_refl _)] at d
      rw [List.drop_of_length_le (by omega)]
      exact d)
theorem slA_mid {i j : Nat} (h : Dp K H r (.tuple ds)) (q : ∀ (r' : V) (H' : Hp), Same H H' → Dp K H' r' (.tuple ((ds.drop (min i ds.length)).take (min j ds.length - min i ds.length))) → Q r' H') : rSlA K r (some (i : Int)) (some (j : Int)) H Q :=
  slA_any h fun r' H' s d => q r' H' s (by
    rw [HT.sIx_nat, HT.sIx_nat] at d
    exact d)
theorem catA (h : Dp K H r (.tuple ds)) (k : Dp K H r2 (.tuple es)) (few : ds.length + es.length ≤ 1000) (q : ∀ (r' : V) (H' : Hp), Same H H' → Dp K H' r' (.tuple (ds ++ es)) → Q r' H') : rCatA K r r2 H Q := by
  cases h with
  | tup h1 h2 =>
    rename_i a xs
    cases k with
    | tup k1 k2 =>
      rename_i b ys
      refine ⟨a, b, xs, ys, rfl, rfl, h1, k1, by rw [dsLen h2, dsLen k2]; exact Nat.le_trans few (by decide), fun e => ?_, fun _ e => ?_, fun _ _ p np => ?_⟩
      · subst e
        cases h2
        exact q _ H (Same.refl H) (.tup k1 k2)
      · subst e
        cases k2
        rw [List.append_nil] at q
        exact q _ H (Same.refl H) (.tup h1 h2)
      · have s := same_new (o := .tup (xs ++ ys)) np
        exact q _ _ s (.tup (.inl (.inl upd_same)) (dsKeep s (dsApp h2 k2)))
end
/-! ### texts -/
def asciiB (x : Str) : Bool := x.cps.toList.all fun c => decide (c < 128)
theorem ascii_cut {z : Str} (h : asciiB z = true) (lo hi : Option Int) : asciiB (cutS z lo hi) = true := by
  refine List.all_eq_true.mpr fun c hc => ?_
  have hc : c ∈ ((z.cps.toList.drop (HT.sIx z.length 0 lo)).take (HT.sIx z.length z.length hi - HT.sIx z.length 0 lo)).toArray.toList := hc
  exact List.all_eq_true.mp h c (List.mem_of_mem_drop (List.mem_of_mem_take hc))
theorem ascii_app {x y : Str} (h : asciiB x = true) (k : asciiB y = true) : asciiB (x ++ y) = true := by
  unfold asciiB at *
  rw [Str.cps_append, Array.toList_append, List.all_append, h, k]
  rfl
theorem slen_app (x y : Str) : (x ++ y).length = x.length + y.length := by
  show (x ++ y).cps.size = x.cps.size + y.cps.size
  rw [Str.cps_append, Array.size_append]
end Kn


namespace Kn
open PySem PySem.Spec PyProof.Rows L2
/-! ### t[::-1] of a tuple -/
section
variable {prog : Program} {w : World} {A : Around} {E : Value → Shared → Prop} {s : Shared}
theorem places_back (n : Nat) : Builtin.Slice.sliceAdjust none none (-1) (n : Int) = ((n : Int) - 1, -1) := by
  unfold Builtin.Slice.sliceAdjust
  rfl
theorem count_back (n : Nat) : Builtin.Slice.slicePlaces ((n : Int) - 1) (-1) (-1) = n := by
  unfold Builtin.Slice.slicePlaces
  simp
  omega
theorem fm_congr {α β : Type} {f g : α → Option β} : ∀ {l : List α}, (∀ x ∈ l, f x = g x) → l.filterMap f = l.filterMap g
  | [], _ => rfl
  | x :: r, h => by
    rw [List.filterMap_cons, List.filterMap_cons, h x (List.mem_cons_self ..), fm_congr (l := r) fun y hy => h y (List.mem_cons_of_mem _ hy)]
theorem pick_back (xs : Array Value) : ((List.range xs.size).filterMap fun (k : Nat) => xs[((xs.size : Int) - 1 + (k : Int) * -1).toNat]?).toArray = xs.toList.reverse.toArray := by
  have e : (List.range xs.size).filterMap (fun (k : Nat) => xs[((xs.size : Int) - 1 + (k : Int) * -1).toNat]?) = xs.toList.reverse := by
    have h : ∀ k ∈ List.range xs.size, xs[((xs.size : Int) - 1 + (k : Int) * -1).toNat]? = xs.toList.reverse[k]? := by
      intro k hk
      have hk := List.mem_range.mp hk
      have hl : k < xs.toList.length := by rw [Array.length_toList]; exact hk
      rw [List.getElem?_reverse hl, Array.getElem?_toList, Array.length_toList]
      congr 1
      omega
    rw [fm_congr h]
    have n : xs.size = xs.toList.reverse.length := by rw [List.length_reverse, Array.length_toList]
    rw [n]
    generalize xs.toList.reverse = ys
    induction ys with
    | nil => rfl
    | cons y r ih =>
      rw [List.length_cons, List.range_succ_eq_map, List.filterMap_cons, List.filterMap_map]
      show y :: List.filterMap (fun k => r[k]?) (List.range r.length) = y :: r
      rw [ih]
  rw [e]
theorem cut_back {sl : Addr} {vl vu vs : Value} {n : Nat} {R : Int × Int × Nat → Shared → Prop} (hs : s.heap.IsSliceOf sl vl vu vs) (pl : IsPart vl none) (pu : IsPart vu none) (ps : IsPart vs (some (-1)))
    (r : R ((n : Int) - 1, -1, n) s) : wpAny (model prog w) A (Builtin.Slice.sliceApplied (.ref sl) (pure (n : Int))) R E s := by
  obtain ⟨o, ho, _, hd⟩ := id hs
  unfold Builtin.Slice.sliceApplied Builtin.Slice.sliceFields
  refine wpAny_bind (wpAny_bind (wpAny_field ho hd (x := vl) rfl (wpAny_bind (wpAny_field ho hd (x := vu) rfl (wpAny_bind (wpAny_field ho hd (x := vs) rfl (wpAny_pure ?_)))))))
  refine wpAny_bind (HT.slicePart_ ps ?_)
  show wpAny _ _ (if ((-1 : Int) == 0) = true then _ else _) _ _ s
  rw [if_neg (by decide)]
  refine wpAny_bind (HT.slicePart_ pl (wpAny_bind (HT.slicePart_ pu (wpAny_bind (wpAny_pure ?_)))))
  show wpAny _ _ (pure (((n : Int) - 1, (-1 : Int), Builtin.Slice.slicePlaces ((n : Int) - 1) (-1) (-1)))) _ _ s
  rw [count_back]
  exact wpAny_pure r
theorem get_back {t sl : Addr} {its : Array Value} {vl vu vs : Value} {Q : Value → Shared → Prop} (ht : IsTup s.heap t its) (hs : s.heap.IsSliceOf sl vl vu vs) (pl : IsPart vl none) (pu : IsPart vu none) (ps : IsPart vs (some (-1)))
    (q : Q (.ref s.heap.objs.size) { s with heap := s.heap.push { cls := .type "tuple", data := .seq its.toList.reverse.toArray } }) (room : its.size ≤ sizeLine) : wpAny (model prog w) A (getItem (.ref t) (.ref sl)) Q E s := by
  have isSl : s.TypeIs (.ref sl) "slice" := let ⟨os, a, b, _⟩ := hs; ⟨os, a, b⟩
  have fits : sizeOk (.seq its.toList.reverse.toArray) := by
    show its.toList.reverse.toArray.size ≤ sizeLine
    rw [List.size_toArray, List.length_reverse, Array.length_toList]
    exact room
  unfold getItem
  refine wpAny_holding ?_
  refine wpAny_bind (wpAny_sequenceKey ht.typeIs (by decide) ?_)
  refine wpAny_bind (wpAny_callSpecial?_slot ht.typeIs PyProof.Rows.slot_tuple_getitem (wpAny_call_entry PyProof.Rows.slot_tuple_getitem ht.typeIs PyProof.Rows.entry_tuple_getitem ?_ (PyProof.Rows.args_tuple_getitem _ _)))
  show wpAny _ _ (Builtin.Tuple.tupleItemsOf (.ref t) >>= _) _ _ s
  refine wpAny_bind (tupleItemsOf_ ht (wpAny_bind (wpAny_typeOf isSl ?_)))
  rw [if_pos (by decide)]
  refine wpAny_bind (cut_back hs pl pu ps ?_)
  have no : ¬ (((its.size : Int) - 1 == 0 && (-1 : Int) == 1 && its.size == its.size) = true) := by
    rw [show ((-1 : Int) == 1) = false from rfl, Bool.and_false, Bool.false_and]
    exact Bool.false_ne_true
  show wpAny _ _ (if ((its.size : Int) - 1 == 0 && (-1 : Int) == 1 && its.size == its.size) = true then _ else _) _ _ s
  rw [if_neg no, pick_back]
  exact wpAny_bind (m := Builtin.Tuple.tupleExact _) (wpAny_newObj_type (wpAny_pure ⟨_, rfl, wpAny_pure q⟩) fits)
end

section
variable {X : Cx} {e : Expr} {te : TE} {k : Nat} {p1 p2 p3 pos : Pos}
def tRevT (K : PySem.W.Frag) (te : TE) : TE := fun σ H Q => te σ H fun x G => ∃ a xs, x = .ref a ∧ SqT K G a xs ∧ ∀ p, G p = none → Q (.ref p) (upd G p (.tup xs.reverse))
theorem pe_revT (he : PE X e te) : PE X (.Subscript e (.Slice none none (some (.UnaryOp .USub (.Constant (.int 1) k p1) p2)) p3) pos) (tRevT X.K te) := by
  refine ⟨fun pins s σ H Q I told => Subscript_ (thn (he.run pins s σ H _ I told) ?_)⟩
  rintro v s1 ⟨x, H1, I1, rx, a, xs, rfl, hT, q⟩
  obtain rfl : v = Value.ref a := rx
  have back : PO X (some (.UnaryOp .USub (.Constant (.int 1) k p1) p2)) (tPart (tUn (rU fun i => .int (-i)) (tC (.int 1)))) := po_some (pe_un un_neg pe_int)
  refine wpAny_Slice (thn (po_none.run pins s1 σ H1 (fun o G => o = none ∧ G = H1) I1 ⟨rfl, rfl⟩) ?_)
  rintro vl s2 ⟨l, H2, I2, pl, rfl, rfl⟩
  refine thn (po_none.run pins s2 σ H2 (fun o G => o = none ∧ G = H2) I2 ⟨rfl, rfl⟩) ?_
  rintro vu s3 ⟨u, H3, I3, pu, rfl, rfl⟩
  refine thn (back.run pins s3 σ H3 (fun o G => o = some (-1) ∧ G = H3) I3 ⟨1, rfl, -1, rfl, rfl, rfl⟩) ?_
  rintro vs s4 ⟨o, H4, I4, ps, rfl, rfl⟩
  have I5 : Inv X pins σ H4 { s4 with heap := s4.heap.push { cls := .type "slice", data := .fields #[vl, vu, vs] } } := I4.kept (t' := s4.toks) (fun _ _ y => Heap.get?_push_of_some _ y)
  obtain ⟨its, rv, isT, room⟩ := I5.tuple hT
  have many := rv.length
  show wpAny _ _ (subscriptTail e _ (.ref a) (.ref s4.heap.objs.size)) _ _ { s4 with heap := s4.heap.push { cls := .type "slice", data := .fields #[vl, vu, vs] } }
  refine tail_any (ops := [.ref a, .ref s4.heap.objs.size]) isT.typeIs PyProof.Rows.slot_tuple_getitem.lookup ?_ (by with_unfolding_all rfl)
  refine get_back isT (Heap.IsSliceOf.new _ vl vu vs) pl pu ps ?_ (by rw [List.size_toArray]; omega)
  refine ⟨.ref _, _, I5.laid (t' := s4.toks) (o := .tup xs.reverse) (fun _ _ y => Heap.get?_push_of_some _ y) (Nat.le_refl _) ?_, rfl, q _ (I5.hok.fresh (Nat.le_refl _))⟩
  exact ⟨by rw [List.length_reverse]; exact room, its.reverse, rv.reverse, IsTup.new _ _⟩
end

end Kn


namespace Kn
open PySem PySem.Spec PyProof.Rows L2
abbrev nBent : List Str := ["_law_feed", "_law_item", "_law_k", "_law_way", "_law_strange_here"]
theorem scBent : FnScope nBent ["_law_feed", "_law_item"] (defScope (topS 28)) := ⟨rfl, rfl, rfl, by decide +kernel, rfl, by decide +kernel, by decide +kernel⟩
def spBent (K : PySem.W.Frag) (n : Nat) : Sp := fun vs H Q _ => ∃ (f a : Addr) (ns : List Int) (c : Nat) (v : V) (d : PyData), vs = [.ref f, v] ∧ Fd f a ns H c ∧ c + 10 * (n + 1) < 80000 ∧ Dp K H v d ∧ goodD d = true ∧ nodesD d ≤ 400 ∧ d.depth ≤ n ∧ n ≤ 40 ∧
  ∀ (r : V) (d' : PyData) (H' : Hp), Dp K H' r d' → goodD d' = true → nodesD d' ≤ 2 * nodesD d + 12 → d'.depth ≤ d.depth + 4 → Keep f H H' → Fd f a ns H' (c + 10 * (n + 1)) → Q r H'
def signD : List PyData := [.str "a", .str "A", .str " ", .str "z", .str "0", .str ","]
def signs : List Str := ["a", "A", " ", "z", "0", ","]
theorem signs_ok : ∀ x ∈ signs, asciiB x = true ∧ x.length = 1 := by
  have all : (signs.all fun x => asciiB x && decide (x.length = 1)) = true := by decide +kernel
  intro x hx
  obtain ⟨a, b⟩ := Bool.and_eq_true_iff.mp (List.all_eq_true.mp all x hx)
  exact ⟨a, of_decide_eq_true b⟩
theorem depth_tuple (ds : List PyData) : (PyData.tuple ds).depth = PyData.depthAll ds + 1 := rfl
theorem depth_list (ds : List PyData) : (PyData.list ds).depth = PyData.depthAll ds + 1 := rfl
section
variable {P : Program} {w : World} {K : PySem.W.Frag} {mg : Str → Option Value} {base : Heap}
theorem pss_step {X : Cx} {st : Stmt} {rest : List Stmt} {a : L2.TS} {D : Ends} {σ : L2.St} {H : Hp} (I : L2.St → Hp → Prop) (h1 : PS X st a) (tail : ∃ t, PSs X rest t ∧ ∀ σ' H', I σ' H' → t D σ' H') (main : ∀ t : L2.TS, (∀ σ' H', I σ' H' → t D σ' H') → tSeq a t D σ H) :
    ∃ t, PSs X (st :: rest) t ∧ t D σ H := by
  obtain ⟨t, ht, q⟩ := tail
  exact ⟨_, pss_cons h1 ht, main t q⟩
theorem ok_bent1 {g gD gA gS : Addr} {fd fdD fdA fdS : FuncData} (F : Fun K "_law_bent" "_law_bent" (topS 28) g fd) (b : Binds K fd ["_law_feed", "_law_item"] []) (m : mg "_law_bent" = some (.ref g))
    (FD : Fun K "_law_draw" "_law_draw" (topS 23) gD fdD) (bD : Binds K fdD ["_law_feed", "_law_many"] []) (mD : mg "_law_draw" = some (.ref gD)) (GD : FnOk P w K mg base CX0 1 gD fdD ["_law_feed", "_law_many"] spDraw)
    (FA : Fun K "_law_any" "_law_any" (topS 24) gA fdA) (bA : Binds K fdA ["_law_feed", "_law_some"] []) (mA : mg "_law_any" = some (.ref gA)) (GA : FnOk P w K mg base CX0 2 gA fdA ["_law_feed", "_law_some"] (spAny K))
    (FS : Fun K "_law_strange" "_law_strange" (topS 27) gS fdS) (bS : Binds K fdS ["_law_feed"] []) (mS : mg "_law_strange" = some (.ref gS)) (GS : FnOk P w K mg base CX0 3 gS fdS ["_law_feed"] (spStrange K))
    (mi : mg "int" = none) (ml : mg "len" = none) (mt : mg "tuple" = none) (ms : mg "isinstance" = none) (mz : mg "str" = none) (mli : mg "list" = none) (n : Nat)
    (rec : ∀ j, j < n → FnOk P w K mg base CX0 (j + 4) g fd ["_law_feed", "_law_item"] (spBent K j)) : FnOk P w K mg base CX0 (n + 4) g fd ["_law_feed", "_law_item"] (spBent K n) := by
  have R : FnOk P w K mg base CX0 (n + 3) g fd ["_law_feed", "_law_item"] (fun vs H Q E => ∃ j, j < n ∧ spBent K j vs H Q E) :=
    ⟨fun vs H Q E ⟨j, l, h⟩ => (rec j l).len vs H Q E h, fun A outer s H args us vs Q E hr e bb v ⟨j, l, h⟩ => (rec j l).run A outer s H args us vs Q E (hr.mono (by omega)) e bb v h⟩
  refine F.ok scBent (fun vs H Q E h => ?_) (fun cdv A outer s H vs Q E hr h => ?_)
  · obtain ⟨f, a, ns, c, v, d, rfl, _⟩ := h
    rfl
  · obtain ⟨f, a, ns, c, v, d, rfl, fd0, hc, hd, gd, sm, hn, hn40, q⟩ := h
    have hr1 : Room 1 _ := hr.mono (by omega)
    have hr2 : Room 2 _ := hr.mono (by omega)
    have hr3 : Room 3 _ := hr.mono (by omega)
    refine pss_step (fun σ' G => σ' = [some (.ref f), some v, none, none, none] ∧ Keep f H G ∧ Fd f a ns G (c + 1)) (ps_if (PW.pt (pw_and (pt_val (pe_callB call_isi (by rfl) ms boot_isinstance (pa_cons (pv 1) (pa_cons (pe_bltn (v := .ty "tuple") (by rfl) mt (by decide +kernel) rfl) pa_nil))))
          (pw_and (pt_cmpR op_gt (pe_callB call_len_seq (by rfl) ml PySem.boot_len (pa_cons (pv 1) pa_nil)) pe_int (nomark _)) (pw_and1 (pt_cmpR op_gt (pe_call GD hr1 (by rfl) mD FD.kp bD .nil pass0 (pa_cons (pv 0) (pa_cons pe_int pa_nil))) pe_int (nomark _))))))
        (pss_cons (ps_set (i := 2) scBent.nd rfl (.inl rfl) (pe_call GD hr1 (by rfl) mD FD.kp bD .nil pass0 (pa_cons (pv 0) (pa_cons (pe_callB call_len_seq (by rfl) ml PySem.boot_len (pa_cons (pv 1) pa_nil)) pa_nil))))
        (pss_one (ps_ret (pe_op op_catA (pe_op op_catA (pe_slice sl_tupA (pv 1) po_none (po_some (pv 2))) (pe_tup (pa_cons (pe_call R hr (by rfl) m F.kp b .nil pass0 (pa_cons (pv 0) (pa_cons (pe_ix ix_tup (pv 1) (pv 2) (fun _ _ => rfl)) pa_nil))) pa_nil)))
          (pe_slice sl_tupA (pv 1) (po_some (pe_op op_add (pv 2) pe_int)) po_none))))) pss_nil) ⟨_, (pss_cons (ps_par (i := 3) (j := 4) (by rfl) scBent.nd rfl rfl (by decide) rfl rfl (pa_cons (pe_call GD hr1 (by rfl) mD FD.kp bD .nil pass0 (pa_cons (pv 0) (pa_cons pe_int pa_nil))) (pa_cons (pe_call GS hr3 (by rfl) mS FS.kp bS .nil pass0 (pa_cons (pv 0) pa_nil)) pa_nil)) (by rfl))
      (pss_cons (ps_if (PW.pt (pw_and (pt_val (pe_callB call_isi (by rfl) ms boot_isinstance (pa_cons (pv 1) (pa_cons (pe_bltn (v := .ty "tuple") (by rfl) mt (by decide +kernel) rfl) pa_nil)))) (pw_and1 (pt_cmpR op_lt (pv 3) pe_int (nomark _)))))
        (pss_cons (ps_set (i := 2) scBent.nd rfl (.inl rfl) (pe_call GD hr1 (by rfl) mD FD.kp bD .nil pass0 (pa_cons (pv 0) (pa_cons (pe_op op_add (pe_callB call_len_seq (by rfl) ml PySem.boot_len (pa_cons (pv 1) pa_nil)) pe_int) pa_nil))))
        (pss_cons (ps_if (pt_cmpR op_eq (pv 3) pe_int (nomark _)) (pss_one (ps_ret (pe_callTy call_list_of (by rfl) mli (by decide +kernel) (pa_cons (pv 1) pa_nil)))) pss_nil)
        (pss_cons (ps_if (pt_cmpR op_eq (pv 3) pe_int (nomark _)) (pss_one (ps_ret (pe_op op_catA (pe_slice sl_tupA (pv 1) po_none (po_some (pv 2))) (pe_slice sl_tupA (pv 1) (po_some (pe_op op_add (pv 2) pe_int)) po_none)))) pss_nil)
        (pss_cons (ps_if (pt_cmpR op_eq (pv 3) pe_int (nomark _)) (pss_one (ps_ret (pe_op op_catA (pe_op op_catA (pe_slice sl_tupA (pv 1) po_none (po_some (pv 2))) (pe_slice sl_tupA (pv 1) (po_some (pv 2)) (po_some (pe_op op_add (pv 2) pe_int)))) (pe_slice sl_tupA (pv 1) (po_some (pv 2)) po_none)))) pss_nil)
        (pss_one (ps_ret (pe_ifExp (pt_cmpR op_lt (pv 3) pe_int (nomark _)) (pe_op op_catA (pe_op op_catA (pe_slice sl_tupA (pv 1) po_none (po_some (pv 2))) (pe_tup (pa_cons (pv 4) pa_nil))) (pe_slice sl_tupA (pv 1) (po_some (pv 2)) po_none)) (pe_revT (pv 1))))))))) pss_nil)
      (pss_cons (ps_if (PW.pt (pw_and (pt_val (pe_callB call_isi (by rfl) ms boot_isinstance (pa_cons (pv 1) (pa_cons (pe_bltn (v := .ty "str") (by rfl) mz (by decide +kernel) rfl) pa_nil)))) (pw_and1 (pt_cmpR op_lt (pv 3) pe_int (nomark _)))))
        (pss_cons (ps_set (i := 2) scBent.nd rfl (.inl rfl) (pe_call GD hr1 (by rfl) mD FD.kp bD .nil pass0 (pa_cons (pv 0) (pa_cons (pe_op op_add (pe_callB call_len_str (by rfl) ml PySem.boot_len (pa_cons (pv 1) pa_nil)) pe_int) pa_nil))))
        (pss_one (ps_ret (pe_op op_add_str (pe_op op_add_str (pe_slice sl_str (pv 1) po_none (po_some (pv 2))) (pe_call GA hr2 (by rfl) mA FA.kp bA .nil pass0 (pa_cons (pv 0) (pa_cons (pe_lst (pa_cons pe_str (pa_cons pe_str (pa_cons pe_str (pa_cons pe_str (pa_cons pe_str (pa_cons pe_str pa_nil))))))) pa_nil))))
          (pe_slice sl_str (pv 1) (po_some (pe_op op_add (pv 2) (pe_callTy call_int1 (by rfl) mi boot_int (pa_cons (pe_cmpR op_gt (pv 3) pe_int (nomark _)) pa_nil)))) po_none))))) pss_nil)
      (pss_one (ps_ret (pv 4)))))), ?_⟩ ?_
    · rintro σ' G ⟨rfl, kG, fdG⟩
      have hdG := dFd fd0 kG hd
      refine ⟨.ref f, rfl, f, a, ns, c + 1, 8, rfl, by decide, by decide, fdG, by omega, fun w1 G1 w0 w8 k1 fd1 => ⟨.ref f, rfl, f, a, ns, c + 2, rfl, fd1, by omega, fun sv sd G2 hs dps k2 fd2 => ⟨_, _, rfl, ?_⟩⟩⟩
      have hd2 := dFd fd1 k2 (dFd fdG k1 hdG)
      have kk := (kG.trans k1).trans k2
      obtain ⟨o1, o2, o3⟩ := strange_ok sd hs
      have odd : ∀ (J : Hp) (c' : Nat), Keep f G2 J → Fd f a ns J c' → c' ≤ c + 10 → Q sv J := fun J c' kJ fJ lc => q sv sd J (dFd fd2 kJ dps) o1 (by omega) (by omega) (kk.trans kJ) (fJ.more (by omega))
      have none : tupB d = false → strB d = false ∨ True → True := fun _ _ => trivial
      clear none
      cases hd with
      | tup ht hds =>
        rename_i p xs ds
        have gds : goodDs ds = true := gd
        have sm' : 1 + nodesDs ds ≤ 400 := sm
        have lds := nodes_len ds
        have tm : Tm (nodesDs ds) (PyData.depthAll ds) ds := ⟨gds, Nat.le_refl _, Nat.le_refl _⟩
        have fin : ∀ (es : List PyData) (r : V) (J : Hp) (c' : Nat), Dp K J r (.tuple es) → Tm (2 * nodesDs ds + 13) (PyData.depthAll ds + 4) es → Keep f G2 J → Fd f a ns J c' → c' ≤ c + 10 → Q r J := fun es r J c' h t kJ fJ lc => by
          refine q r _ J h t.g ?_ ?_ (kk.trans kJ) (fJ.more (by omega))
          · show 1 + nodesDs es ≤ 2 * (1 + nodesDs ds) + 12
            have := t.n
            omega
          · rw [depth_tuple, depth_tuple]
            have := t.d
            omega
        refine ⟨.ref p, rfl, .ref p, .ty "tuple", _, _, _, rfl, .ty "tuple", ty_of hd2, kit_tup, _, rfl, iteT ⟨_, rfl, w1, 6, rfl, rfl, _, rfl, ite2 (fun _ => ?_) (fun _ => ?_)⟩⟩
        · obtain ⟨ht2, hds2⟩ : (∃ xs2, SqT K G2 p xs2 ∧ DpAll K G2 xs2 ds) ∧ True := by
            cases hd2 with
            | tup a b => exact ⟨⟨_, a, b⟩, trivial⟩
          obtain ⟨xs2, ht2, hds2⟩ := ht2
          have l2 : xs2.length = ds.length := dsLen hds2
          refine ⟨.ref f, rfl, .ref p, rfl, p, xs2, rfl, .inr ht2, _, 1, rfl, rfl, f, a, ns, c + 3, (xs2.length : Int) + 1, rfl, by omega, by omega, fd2, by omega, fun k J k0 kl k3 fd3 => ?_⟩
          obtain ⟨j, rfl⟩ := Int.eq_ofNat_of_zero_le k0
          have hj : j ≤ ds.length := by omega
          have hJ := dFd fd2 k3 hd2
          have full : ∀ {n' k' : Nat} {es : List PyData}, Tm n' k' es → n' ≤ 2 * nodesDs ds + 13 → k' ≤ PyData.depthAll ds + 4 → Tm (2 * nodesDs ds + 13) (PyData.depthAll ds + 4) es := fun t a b => t.mono a b
          obtain ⟨x, y, xy, tx, ty⟩ := tm.cut j
          refine ⟨_, rfl, rfl, _, rfl, ite2 (fun _ => ?_) (fun _ => ?_)⟩
          · -- a list of the items
            obtain ⟨xs3, ht3, hds3⟩ : ∃ xs3, SqT K J p xs3 ∧ DpAll K J xs3 ds := by
              cases hJ with
              | tup a b => exact ⟨_, a, b⟩
            refine ⟨.ref p, rfl, p, xs3, rfl, .inr ht3, fun l nl => ?_⟩
            have sl := same_new (o := .lst xs3) nl
            refine q (.ref l) (.list ds) _ (.lst (.inl (.inl upd_same)) (dsKeep sl hds3)) gds ?_ ?_ ((kk.trans k3).trans (keep_same sl)) ((fd3.same sl).more (by omega))
            · show 1 + nodesDs ds ≤ 2 * (1 + nodesDs ds) + 12
              omega
            · rw [depth_list, depth_tuple]
              omega
          refine ⟨_, rfl, rfl, _, rfl, ite2 (fun _ => ?_) (fun _ => ?_)⟩
          · -- one less
            refine ⟨.ref p, rfl, _, rfl, j, rfl, slA_take hJ hj fun r1 J1 s1 d1 => ?_⟩
            have hJ1 := dKeep s1 hJ
            refine ⟨.ref p, rfl, _, rfl, j, 1, rfl, rfl, _, rfl, ?_⟩
            dsimp only [tNoPart]
            refine slA_drop (k := j + 1) hJ1 fun r2 J2 s2 d2 => ?_
            refine catA (dKeep s2 d1) d2 (by rw [List.length_take, List.length_drop]; omega) fun r3 J3 s3 d3 => ?_
            have sA := (s1.trans s2).trans s3
            refine fin _ r3 J3 _ d3 (full (n' := x + y) (tx.app ?_) (by omega) (by omega)) (k3.trans (keep_same sA)) (fd3.same sA) (by omega)
            have e : ds.drop (j + 1) = (ds.drop j).drop 1 := by rw [List.drop_drop]
            rw [e]
            exact ty.drop 1
          refine ⟨_, rfl, rfl, _, rfl, ite2 (fun _ => ?_) (fun _ => ?_)⟩
          · -- one twice
            refine ⟨.ref p, rfl, _, rfl, j, rfl, slA_take hJ hj fun r1 J1 s1 d1 => ?_⟩
            have hJ1 := dKeep s1 hJ
            refine ⟨.ref p, rfl, _, rfl, j, rfl, _, rfl, j, 1, rfl, rfl, _, rfl, ?_⟩
            dsimp only [tNoPart]
            refine slA_mid (i := j) (j := j + 1) hJ1 fun r2 J2 s2 d2 => ?_
            refine catA (dKeep s2 d1) d2 (by rw [List.length_take, List.length_take, List.length_drop]; omega) fun r3 J3 s3 d3 => ?_
            have sA := (s1.trans s2).trans s3
            refine ⟨.ref p, rfl, _, rfl, j, rfl, ?_⟩
            dsimp only [tNoPart]
            refine slA_drop (dKeep sA hJ) fun r4 J4 s4 d4 => ?_
            refine catA (dKeep s4 d3) d4 (by rw [List.length_append, List.length_take, List.length_take, List.length_drop, List.length_drop]; omega) fun r5 J5 s5 d5 => ?_
            have sB := (sA.trans s4).trans s5
            exact fin _ r5 J5 _ d5 (full ((tx.app ((tm.drop _).take _)).app ty) (by omega) (by omega)) (k3.trans (keep_same sB)) (fd3.same sB) (by omega)
          refine ⟨_, rfl, w1, 5, rfl, rfl, _, rfl, ite2 (fun _ => ?_) (fun _ => ?_)⟩
          · -- something put in
            refine ⟨.ref p, rfl, _, rfl, j, rfl, slA_take hJ hj fun r1 J1 s1 d1 => ?_⟩
            refine ⟨sv, rfl, (show 1 ≤ sizeLine by decide), fun t nt => ?_⟩
            have st := same_new (o := .tup [sv]) nt
            have dt : Dp K (upd J1 t (.tup [sv])) (.ref t) (.tuple [sd]) := .tup (.inl (.inl upd_same)) (.cons (dKeep st (dKeep s1 (dFd fd2 k3 dps))) .nil)
            refine catA (dKeep st d1) dt (by rw [List.length_take]; show _ + 1 ≤ 1000; omega) fun r3 J3 s3 d3 => ?_
            have sA := (s1.trans st).trans s3
            refine ⟨.ref p, rfl, _, rfl, j, rfl, ?_⟩
            dsimp only [tNoPart]
            refine slA_drop (dKeep sA hJ) fun r4 J4 s4 d4 => ?_
            refine catA (dKeep s4 d3) d4 (by rw [List.length_append, List.length_take, List.length_drop]; show _ + 1 + _ ≤ 1000; omega) fun r5 J5 s5 d5 => ?_
            have sB := (sA.trans s4).trans s5
            have t1 : Tm 10 (PyData.depthAll ds + 4) [sd] := Tm.one o1 o2 (by omega)
            exact fin _ r5 J5 _ d5 (full (((tx.mono (Nat.le_refl _) (by omega)).app t1).app (ty.mono (Nat.le_refl _) (by omega))) (by omega) (Nat.le_refl _)) (k3.trans (keep_same sB)) (fd3.same sB) (by omega)
          · -- the other way about
            obtain ⟨xs3, ht3, hds3⟩ : ∃ xs3, SqT K J p xs3 ∧ DpAll K J xs3 ds := by
              cases hJ with
              | tup a b => exact ⟨_, a, b⟩
            refine ⟨.ref p, rfl, p, xs3, rfl, ht3, fun t nt => ?_⟩
            have st := same_new (o := .tup xs3.reverse) nt
            exact fin ds.reverse (.ref t) _ _ (.tup (.inl (.inl upd_same)) (dsKeep st (dsRev hds3))) (full tm.rev (by omega) (by omega)) (k3.trans (keep_same st)) (fd3.same st) (by omega)
        · exact ⟨.ref p, rfl, .ref p, .ty "str", _, _, _, rfl, .ty "str", ty_of hd2, kit_str, _, rfl, iteF (iteF ⟨_, rfl, odd G2 _ (Keep.refl f G2) fd2 (by omega)⟩)⟩
      | str z =>
        have gz : asciiB z = true := gd
        have sz : 1 + z.length ≤ 400 := sm
        have lz : z.length ≤ sizeLine := Nat.le_trans (show z.length ≤ 400 by omega) (by decide)
        refine ⟨_, rfl, _, .ty "tuple", _, _, _, rfl, .ty "tuple", ty_of hd2, kit_tup, _, rfl, iteF (iteF ⟨_, rfl, _, .ty "str", _, _, _, rfl, .ty "str", ty_of hd2, kit_str, _, rfl, iteT ⟨_, rfl, w1, 5, rfl, rfl, _, rfl, ite2 (fun _ => ?_) (fun _ => ⟨_, rfl, odd G2 _ (Keep.refl f G2) fd2 (by omega)⟩)⟩⟩)⟩
        refine ⟨.ref f, rfl, .str z, rfl, z, rfl, lz, _, 1, rfl, rfl, f, a, ns, c + 3, (z.length : Int) + 1, rfl, by omega, by omega, fd2, by omega, fun k J k0 kl k3 fd3 => ?_⟩
        obtain ⟨j, rfl⟩ := Int.eq_ofNat_of_zero_le k0
        refine ⟨.str z, rfl, _, rfl, j, rfl, z, rfl, lz, .ref f, rfl, (show 6 ≤ sizeLine by decide), fun pl npl => ?_⟩
        have sl := same_new (o := .lst (signs.map V.str)) npl
        refine ⟨f, a, pl, ns, c + 4, signs.map V.str, rfl, fd3.same sl, by omega, .inl (.inl upd_same), (show 0 < 6 by decide), (show 6 ≤ 1000 by decide), fun x J2 hx k4 fd4 => ?_⟩
        obtain ⟨ch, hch, rfl⟩ := List.mem_map.mp hx
        obtain ⟨g1, l1⟩ := signs_ok ch hch
        have c1 := cutS_length z Option.none (some (j : Int))
        have big : 1000 ≤ sizeLine := by decide
        refine ⟨_, _, rfl, rfl, by omega, .str z, rfl, _, rfl, _, rfl, w1, 2, rfl, rfl, .inr ⟨_, rfl, j, _, rfl, rfl, _, rfl, z, rfl, lz, _, _, rfl, rfl, ?_, ?_⟩⟩
        · refine Nat.le_trans (Nat.add_le_add (Nat.le_of_eq (slen_app _ _)) (cutS_length z _ _)) ?_
          omega
        · refine q _ (.str _) _ (.str _) (ascii_app (ascii_app (ascii_cut gz _ _) g1) (ascii_cut gz _ _)) ?_ ?_ ((kk.trans k3).trans ((keep_same sl).trans k4)) (fd4.more (by omega))
          · refine Nat.le_trans (Nat.add_le_add_left (Nat.le_trans (Nat.le_of_eq (slen_app _ _)) (Nat.add_le_add (Nat.le_of_eq (slen_app _ _)) (cutS_length z _ _))) 1) ?_
            show _ ≤ 2 * (1 + z.length) + 12
            omega
          · exact Nat.zero_le _
      | non => exact ⟨_, rfl, _, .ty "tuple", _, _, _, rfl, .ty "tuple", ty_of hd2, kit_tup, _, rfl, iteF (iteF ⟨_, rfl, _, .ty "str", _, _, _, rfl, .ty "str", ty_of hd2, kit_str, _, rfl, iteF (iteF ⟨_, rfl, odd G2 _ (Keep.refl f G2) fd2 (by omega)⟩)⟩)⟩
      | bl b => exact ⟨_, rfl, _, .ty "tuple", _, _, _, rfl, .ty "tuple", ty_of hd2, kit_tup, _, rfl, iteF (iteF ⟨_, rfl, _, .ty "str", _, _, _, rfl, .ty "str", ty_of hd2, kit_str, _, rfl, iteF (iteF ⟨_, rfl, odd G2 _ (Keep.refl f G2) fd2 (by omega)⟩)⟩)⟩
      | int b => exact ⟨_, rfl, _, .ty "tuple", _, _, _, rfl, .ty "tuple", ty_of hd2, kit_tup, _, rfl, iteF (iteF ⟨_, rfl, _, .ty "str", _, _, _, rfl, .ty "str", ty_of hd2, kit_str, _, rfl, iteF (iteF ⟨_, rfl, odd G2 _ (Keep.refl f G2) fd2 (by omega)⟩)⟩)⟩
      | lst b b' => exact ⟨_, rfl, _, .ty "tuple", _, _, _, rfl, .ty "tuple", ty_of hd2, kit_tup, _, rfl, iteF (iteF ⟨_, rfl, _, .ty "str", _, _, _, rfl, .ty "str", ty_of hd2, kit_str, _, rfl, iteF (iteF ⟨_, rfl, odd G2 _ (Keep.refl f G2) fd2 (by omega)⟩)⟩)⟩
    · intro tl run
      have next : ∀ G, Keep f H G → Fd f a ns G (c + 1) → _ := fun G k fdG => run _ G ⟨rfl, k, fdG⟩
      cases hd with
      | tup ht hds =>
        rename_i p xs ds
        have hd' : Dp K H (.ref p) (.tuple ds) := .tup ht hds
        have gds : goodDs ds = true := gd
        have sm' : 1 + nodesDs ds ≤ 400 := sm
        have hn' : PyData.depthAll ds + 1 ≤ n := hn
        have lds := nodes_len ds
        have lx : xs.length = ds.length := dsLen hds
        have tm : Tm (nodesDs ds) (PyData.depthAll ds) ds := ⟨gds, Nat.le_refl _, Nat.le_refl _⟩
        refine ⟨.ref p, rfl, .ref p, .ty "tuple", _, _, _, rfl, .ty "tuple", ty_of hd', kit_tup, _, rfl, iteT ⟨.ref p, rfl, p, xs, rfl, .inr ht, _, _, rfl, rfl, _, rfl, ?_⟩⟩
        by_cases pos : 0 < ds.length
        · rw [decide_eq_true (show ((xs.length : Nat) : Int) > 0 by omega)]
          refine iteT ⟨.ref f, rfl, f, a, ns, c, 4, rfl, by decide, by decide, fd0, by omega, fun r G r0 r1 k1 fd1 => ⟨_, _, rfl, rfl, _, rfl, ite2 (fun _ => ?_) (fun _ => next G k1 fd1)⟩⟩
          have hd1 := dFd fd0 k1 hd'
          have ht1 : SqT K G p xs := tupT (ts_fd fd0 k1) ht
          refine ⟨.ref f, rfl, .ref p, rfl, p, xs, rfl, .inr ht1, f, a, ns, c + 1, (xs.length : Int), rfl, by omega, by omega, fd1, by omega, fun k G2 k0 kl k2 fd2 => ?_⟩
          obtain ⟨j, rfl⟩ := Int.eq_ofNat_of_zero_le k0
          have hj : j < ds.length := by omega
          have hd2 := dFd fd1 k2 hd1
          have ht2 : SqT K G2 p xs := tupT (ts_fd fd1 k2) ht1
          have hds2 := dsFd fd1 k2 (dsFd fd0 k1 hds)
          refine ⟨.ref p, rfl, _, rfl, j, rfl, slA_take hd2 (Nat.le_of_lt hj) fun r1 G3 s3 d3 => ?_⟩
          have hxj : xs[j]? = some (xs[j]'(by omega)) := List.getElem?_eq_getElem (by omega)
          obtain ⟨dj, hdj, dpj⟩ := dsAt (dsKeep s3 hds2) j _ hxj
          obtain ⟨gj, nj, kj⟩ := tm.get hdj
          refine ⟨.ref f, rfl, .ref p, rfl, _, rfl, p, xs, j, _, rfl, rfl, sameDp s3 ht2, atI_nat hxj, n - 1, by omega, f, a, ns, c + 2, _, dj, rfl, fd2.same s3, by omega, dpj, gj, by omega, by omega, by omega, fun r2 d2 G4 dp2 g2 n2 q2 k4 fd4 => ⟨(show 1 ≤ sizeLine by decide), fun t nt => ?_⟩⟩
          have st := same_new (o := .tup [r2]) nt
          have dt : Dp K (upd G4 t (.tup [r2])) (.ref t) (.tuple [d2]) := .tup (.inl (.inl upd_same)) (.cons (dKeep st dp2) .nil)
          have fd3 := fd2.same s3
          refine catA (dKeep st (dFd fd3 k4 d3)) dt (by rw [List.length_take]; show _ + 1 ≤ 1000; omega) fun r5 G5 s5 d5 => ?_
          refine ⟨.ref p, rfl, _, rfl, j, 1, rfl, rfl, _, rfl, ?_⟩
          dsimp only [tNoPart]
          refine slA_drop (k := j + 1) (dKeep s5 (dKeep st (dFd fd3 k4 (dKeep s3 hd2)))) fun r6 G6 s6 d6 => ?_
          refine catA (dKeep s6 d5) d6 (by rw [List.length_append, List.length_take, List.length_drop]; show _ + 1 + _ ≤ 1000; omega) fun r7 G7 s7 d7 => ?_
          have sB := ((st.trans s5).trans s6).trans s7
          obtain ⟨x, y, xy, tx, ty⟩ := tm.cut j
          have e : ds.drop j = dj :: ds.drop (j + 1) := by
            obtain ⟨hl, e⟩ := List.getElem?_eq_some_iff.mp hdj
            rw [List.drop_eq_getElem_cons hl, e]
          rw [e] at ty
          obtain ⟨u, w, uw, tu, tw⟩ := Tm.split (a := [dj]) (b := ds.drop (j + 1)) ty
          have nu := tu.n
          have nu : nodesD dj + 0 ≤ u := nu
          have tj : Tm (2 * u + 12) (PyData.depthAll ds + 4) [d2] := Tm.one g2 (by omega) (by omega)
          have tA := ((tx.mono (Nat.le_refl _) (show PyData.depthAll ds ≤ PyData.depthAll ds + 4 by omega)).app tj).app (tw.mono (Nat.le_refl _) (by omega))
          refine q r7 _ G7 d7 tA.g ?_ ?_ (((((k1.trans k2).trans (keep_same s3)).trans k4)).trans (keep_same sB)) ((fd4.same sB).more (by omega))
          · show 1 + nodesDs _ ≤ 2 * (1 + nodesDs ds) + 12
            have := tA.n
            omega
          · rw [depth_tuple, depth_tuple]
            have := tA.d
            omega
        · rw [decide_eq_false (show ¬ ((xs.length : Nat) : Int) > 0 by omega)]
          exact iteF (iteF (next H (Keep.refl f H) (fd0.more (by omega))))
      | str z => exact ⟨_, rfl, _, .ty "tuple", _, _, _, rfl, .ty "tuple", ty_of (.str z), kit_tup, _, rfl, iteF (iteF (next H (Keep.refl f H) (fd0.more (by omega))))⟩
      | non => exact ⟨_, rfl, _, .ty "tuple", _, _, _, rfl, .ty "tuple", ty_of .non, kit_tup, _, rfl, iteF (iteF (next H (Keep.refl f H) (fd0.more (by omega))))⟩
      | bl b => exact ⟨_, rfl, _, .ty "tuple", _, _, _, rfl, .ty "tuple", ty_of (.bl b), kit_tup, _, rfl, iteF (iteF (next H (Keep.refl f H) (fd0.more (by omega))))⟩
      | int b => exact ⟨_, rfl, _, .ty "tuple", _, _, _, rfl, .ty "tuple", ty_of (.int b), kit_tup, _, rfl, iteF (iteF (next H (Keep.refl f H) (fd0.more (by omega))))⟩
      | lst b b' => exact ⟨_, rfl, _, .ty "tuple", _, _, _, rfl, .ty "tuple", ty_of (.lst b b'), kit_tup, _, rfl, iteF (iteF (next H (Keep.refl f H) (fd0.more (by omega))))⟩
theorem ok_bent {g gD gA gS : Addr} {fd fdD fdA fdS : FuncData} (F : Fun K "_law_bent" "_law_bent" (topS 28) g fd) (b : Binds K fd ["_law_feed", "_law_item"] []) (m : mg "_law_bent" = some (.ref g))
    (FD : Fun K "_law_draw" "_law_draw" (topS 23) gD fdD) (bD : Binds K fdD ["_law_feed", "_law_many"] []) (mD : mg "_law_draw" = some (.ref gD)) (GD : FnOk P w K mg base CX0 1 gD fdD ["_law_feed", "_law_many"] spDraw)
    (FA : Fun K "_law_any" "_law_any" (topS 24) gA fdA) (bA : Binds K fdA ["_law_feed", "_law_some"] []) (mA : mg "_law_any" = some (.ref gA)) (GA : FnOk P w K mg base CX0 2 gA fdA ["_law_feed", "_law_some"] (spAny K))
    (FS : Fun K "_law_strange" "_law_strange" (topS 27) gS fdS) (bS : Binds K fdS ["_law_feed"] []) (mS : mg "_law_strange" = some (.ref gS)) (GS : FnOk P w K mg base CX0 3 gS fdS ["_law_feed"] (spStrange K))
    (mi : mg "int" = none) (ml : mg "len" = none) (mt : mg "tuple" = none) (ms : mg "isinstance" = none) (mz : mg "str" = none) (mli : mg "list" = none) (n : Nat) : FnOk P w K mg base CX0 (n + 4) g fd ["_law_feed", "_law_item"] (spBent K n) := by
  induction n using Nat.strongRecOn with
  | ind n ih => exact ok_bent1 F b m FD bD mD GD FA bA mA GA FS bS mS GS mi ml mt ms mz mli n ih
end
end Kn


namespace Kn
open PySem PySem.Spec PyProof.Rows L2
/-! ### sum of a tuple of numbers -/
section
variable {prog : Program} {w : World} {A : Around} {E : Value → Shared → Prop} {s : Shared} {l : Addr} {xs : Array (Int × Tok)}
theorem iter_intTup {Q : Value → Shared → Prop} (hl : s.heap.IsTuple l (intItems xs))
    (h : ∀ s₂ : Shared, s₂ = { s with heap := s.heap.push { cls := .type "tuple_iterator", data := .fields #[.ref l, .int 0 0] } } →
      (s₂.heap.IsTupleIter s.heap.objs.size l 0 ∧ s₂.heap.IsTuple l (intItems xs)) → (∀ b ∈ [s.heap.objs.size, l], b < s₂.heap.objs.size) → l ≠ s.heap.objs.size → Q (.ref s.heap.objs.size) s₂) :
    wpAny (model prog w) A (pyIter (.ref l)) Q E s := by
  have hlt : l < s.heap.objs.size := by obtain ⟨_, e, _⟩ := hl; exact Heap.lt_size e
  refine wpAny_pyIter_tuple hl (h _ rfl ⟨⟨_, Heap.get?_push_size _ rfl, rfl, rfl⟩, hl.push _⟩ (fun b hb => ?_) (Nat.ne_of_lt hlt))
  show b < (s.heap.push _).objs.size
  rw [Heap.size_push]
  rcases List.mem_cons.mp hb with rfl | hb
  · exact Nat.lt_succ_self _
  · rcases List.mem_cons.mp hb with rfl | hb
    · exact Nat.lt_succ_of_lt hlt
    · cases hb
theorem old_keptT {h' : Heap} (hk : ∀ b o, b ∉ [s.heap.objs.size] → (s.heap.push { cls := .type "tuple_iterator", data := .fields #[.ref l, .int 0 0] }).get? b = some o → h'.get? b = some o) :
    ∀ b o, s.heap.get? b = some o → h'.get? b = some o := fun b o e => by
  refine hk b o (fun hm => ?_) (Heap.get?_push_of_some _ e)
  rcases List.mem_cons.mp hm with e1 | hm
  · exact absurd (e1 ▸ Heap.lt_size e) (Nat.lt_irrefl _)
  · cases hm
theorem sum_tupG {Q : Value → Shared → Prop} (hh : A.handled = none) (hl : s.heap.IsTuple l (intItems xs))
    (h : ∀ h' tk t', (∀ b o, s.heap.get? b = some o → h'.get? b = some o) → Q (.int (preSum (numAt xs) xs.size) t') { s with heap := h', toks := tk }) :
    wpAny (model prog w) A (call (.builtin "sum") [.ref l]) Q E s := by
  refine call_sum_walkG (iter_intTup hl fun s₂ e st hfp hlI => ?_)
  subst e
  refine ⟨_, _, _, _, _, _, numAt xs, rfl, Walks.tuple (A := A.in1) hh _ l hlI (intItems xs), st, hfp, (fun _ _ => intItems_at), fun h' tk t' hk => ?_⟩
  have := h h' tk t' (old_keptT hk)
  simpa [intItems] using this
theorem sum_rawT {its : List Value} {ns : List Int} {Q : Value → Shared → Prop} (hh : A.handled = none) (hl : s.heap.IsTuple l its.toArray) (hi : IntsAre its ns)
    (h : ∀ h' tk t', (∀ b o, s.heap.get? b = some o → h'.get? b = some o) → Q (.int ns.sum t') { s with heap := h', toks := tk }) : wpAny (model prog w) A (call (.builtin "sum") [.ref l]) Q E s := by
  obtain ⟨xs, e⟩ := hi.allInts.items
  have hn : numsOf (intItems xs).toList = ns := by rw [← e]; exact hi.numsOf
  rw [nums_intItems] at hn
  rw [e] at hl
  refine sum_tupG hh hl fun h' tk t' hk => ?_
  have := h h' tk t' hk
  rw [preSum_eq, List.take_of_length_le (by simp), hn]; exact this
end
def rSumT (K : PySem.W.Frag) : List V → Hp → VK → Prop := fun vs H Q => ∃ (a : Addr) (ns : List Int), vs = [V.ref a] ∧ SqT K H a (ns.map V.int) ∧ Q (.int ns.sum) H
section
variable {X : Cx}
theorem cr_sumT (hc : X.calm = true) : CallR X (.builtin "sum") (rSumT X.K) := by
  intro pins s σ H vs us Q I r h
  obtain ⟨a, ns, rfl, hs, q⟩ := h
  obtain ⟨its, rv, hl, _⟩ := I.tuple hs
  rw [Vals.ref1 r]
  exact sum_rawT (I.ok.hd hc) hl rv.ints fun h' tk t' hk => ⟨.int _, H, I.kept hk, ⟨_, rfl⟩, q⟩
/-! ### tuple * n, n from 1 on -/
theorem tuple_mulW1 (l : Addr) (items : Array Value) (n : Nat) (dd : Option Addr) (sl : Array (Option Value)) (u : Tok) :
    Meets (Builtin.«tuple.__mul__» ⟨[.ref l, .int 1 u], []⟩) (fun _ R s => s.heap.get? l = some { cls := .type "tuple", dict := dd, data := .seq items n, slots := sl } ∧ R (.ok (.ret (Value.ref l))) s) :=
  .of_wp fun prog w A R s h => by
    obtain ⟨hp, g, d, tk, os⟩ := s
    obtain ⟨hl, h⟩ := h
    have f1 := AutoSeq1.idx_int
    wp_walk using wpAny_loadPart' hl
    all_goals exact ⟨_, rfl, h⟩
def rMulT (K : PySem.W.Frag) : R2 := fun x y H Q => ∃ l k xs, x = .ref l ∧ y = .int k ∧ SqT K H l xs ∧ xs ≠ [] ∧ 1 ≤ k ∧ k ≤ 1000 ∧ xs.length ≤ 1000 ∧ (k = 1 → Q (.ref l) H) ∧ ∀ p, H p = none → Q (.ref p) (upd H p (.tup (List.replicate k.toNat xs).flatten))
theorem op_mulT : OpR X (binaryOp .Mult) (rMulT X.K) := by
  intro pins s σ H x y v u Q I rx ry h
  obtain ⟨l, k, xs, rfl, rfl, hT, hne, h1, h2, hz, q1, q⟩ := h
  by_cases k1 : k = 1
  · subst k1
    cases rx
    obtain ⟨t, rfl⟩ := ry
    obtain ⟨its, r, ⟨⟨cls, dd, data, sl⟩, ho, hc, n, hd⟩, hs⟩ := I.tuple hT
    simp only at hc hd
    subst hc hd
    refine wpAny_binaryOp_repeat_ref (T := "tuple") (U := "int") (by decide) ⟨_, ho, rfl⟩ (fun s' => typeIs_int s' 1 t) noFill_tuple_mul F.fills_int_mul F.slot_int_rmul repeat_tuple F.slot_int_index.lookup
      (call_meets F.slot_int_rmul (typeIs_int s 1 t) F.entry_int_rmul (F.args_int_rmul_2 _ _) (int_rmul_tuple 1 t l its.toArray n dd sl)
        ⟨ho, rfl, ⟨_, ho, rfl⟩, call_meets F.slot_tuple_mul ⟨_, ho, rfl⟩ F.entry_tuple_mul (F.args_tuple_mul_2 _ _) (tuple_mulW1 l its.toArray n dd sl t) ⟨ho, ?_⟩⟩)
    exact ⟨.ref l, H, I, rfl, q1 rfl⟩
  · exact op_repT pins s σ H _ _ v u Q I rx ry ⟨l, k, xs, rfl, rfl, hT, hne, by omega, h2, hz, q⟩
/-! ### tuple(list), the new object known -/
def rTupF (K : PySem.W.Frag) : List V → Hp → VK → Prop := fun xs H Q => ∃ p ys, xs = [.ref p] ∧ SqL K H p ys ∧ ∀ l o, H l = none → o.cls = .type "tuple" → o.dict = none → Q (.ref l) (upd H l (.frz o (.tup ys)))
theorem call_tupleF : CallR X (.type "tuple") (rTupF X.K) := by
  intro pins s σ H xs us Q I r h
  obtain ⟨p, ys, rfl, hq, q⟩ := h
  obtain ⟨u, rfl, rx⟩ := vals1 r
  cases rx
  obtain ⟨its, r', pl, hz⟩ := I.list hq
  have hlen := r'.length
  refine call_tuple_list pl.isList (fun h' kp => ?_) (by simp only [List.size_toArray] <;> omega)
  have I1 : Inv X pins σ H { s with heap := h' } := I.kept (t' := s.toks) kp
  have I2 : Inv X pins σ (upd H h'.objs.size (.frz { cls := .type "tuple", data := .seq its.toArray } (.tup ys))) { s with heap := h'.push { cls := .type "tuple", data := .seq its.toArray } } :=
    I1.laid (t' := s.toks) (fun b o e => Heap.get?_push_of_some _ e) (Nat.le_refl _) (show ObjOk X.prog X.w _ _ _ (.frz _ (.tup ys)) from ⟨Heap.get?_push_size _ rfl, hz, its, r', IsTup.new _ _⟩)
  exact ⟨.ref h'.objs.size, _, I2, rfl, q _ _ (I1.hok.fresh (Nat.le_refl _)) rfl rfl⟩
/-! ### t.index(x), t a tuple whose object is known -/
def tTIdx (K : PySem.W.Frag) (to : TE) (t : TA) : TE := fun σ H Q => to σ H fun x H1 => ∃ p o ys, x = .ref p ∧ H1 p = some (.frz o (.tup ys)) ∧ o.cls = .type "tuple" ∧ o.dict = none ∧
  t σ H1 fun xs H2 => ∃ (zs : List Str) (z : Str) (j : Nat), xs = [.str z] ∧ SqT K H2 p (zs.map V.str) ∧ zs[j]? = some z ∧ (∀ m, m < j → zs[m]? ≠ some z) ∧ Q (.int (j : Nat)) H2
variable {o e : Expr} {es : List Expr} {to : TE} {t : TA} {apos cpos : Pos}
theorem pe_tidx (ho : PE X o to) (ha : PA X (e :: es) t)
    (hbase : attributeBase o "index" X.env (eval o X.env) = eval o X.env := by rfl)
    (hfew : ((backTo cpos (starEach (e :: es) X.env)).all (fun x => !x.1) && (backToKw cpos (keywordEach [] X.env)).all (fun x => x.1.isSome)
      && decide ((e :: es).length + ([] : List Keyword).length + (if ([] : List Keyword).isEmpty then 0 else 1) < 30)) = true := by rfl)
    (hline : (apos.endLine == cpos.line) = true := by rfl) (hs : starEach (e :: es) X.env = (false, eval e X.env) :: starEach es X.env := by rfl) (hplain : (backTo cpos (starEach es X.env)).any (·.1) = false := by rfl) :
    PE X (.Call (.Attribute o "index" apos) (e :: es) [] cpos) (tTIdx X.K to t) := by
  refine ⟨fun pins s σ H Q I h => ?_⟩
  refine wpAny_Call_method_late hbase hfew hline rfl (thn (ho.run pins s σ H _ I h) fun v s1 ⟨x, H1, I1, r1, q1⟩ => ?_)
  obtain ⟨p, ob, ys, rfl, hp, hc, hd, q1⟩ := q1
  have hb : s1.heap.get? p = some ob := (I1.hok p _ hp).1
  cases r1
  refine ⟨"tuple", "tuple.index", PySem.F.plainAttrs_tuple, PySem.F.slot_tuple_index, PySem.F.type_tuple_index, ⟨ob, hb, hc⟩, fun a e => ?_, ?_⟩
  · cases e
    exact ⟨ob, hb, hd⟩
  have hA := ha.run cpos pins s1 σ H1 _ I1 q1
  rw [hs] at hA ⊢
  refine Calls.callWith_builtin (by show (false || (backTo cpos (starEach es X.env)).any (·.1)) = false; rw [hplain] <;> rfl) (Calls.evalArgs_plain ?_)
  exact thn hA fun us s2 ⟨vs, H2, I2, r2, zs, z, j, e1, e2, e3, e4, q2⟩ => mt_tup_index pins s2 σ H2 (.ref p) vs (.ref p) us Q I2 rfl r2 ⟨p, zs, z, j, rfl, e1, e2, e3, e4, q2⟩
end
end Kn


namespace Kn
open PySem PySem.Spec PyProof.Rows L2
structure Def (K : PySem.W.Frag) (mg : Str → Option Value) (x : Str) (i : Nat) (ps : List Str) (f : Addr) (fd : FuncData) : Prop where
  F : Fun K x x (topS i) f fd
  b : Binds K fd ps []
  m : mg x = some (.ref f)
abbrev nThing : List Str := ["thing"]
theorem scInteger : FnScope nThing ["thing"] (defScope (topS 12)) := ⟨rfl, rfl, rfl, by decide +kernel, rfl, by decide +kernel, by decide +kernel⟩
theorem scPositive : FnScope nThing ["thing"] (defScope (topS 13)) := ⟨rfl, rfl, rfl, by decide +kernel, rfl, by decide +kernel, by decide +kernel⟩
abbrev nNames : List Str := ["web", "row"]
theorem scNames : FnScope nNames ["web"] (defScope (topS 15)) := ⟨rfl, rfl, rfl, by decide +kernel, rfl, by decide +kernel, by decide +kernel⟩
def spNames (K : PySem.W.Frag) : Sp := fun vs H Q _ => ∃ (v : V) (g : Pg), vs = [v] ∧ PgAt K H v g ∧ g.ok ∧ ∀ (p : Addr) (o : Obj) (H' : Hp), Same H H' → H p = none → o.cls = .type "tuple" → o.dict = none → H' p = some (.frz o (.tup (g.es.map fun e => V.str e.name))) → Q (.ref p) H'
def spB (K : PySem.W.Frag) (f : PyData → Bool) : Sp := fun vs H Q _ => ∃ (v : V) (d : PyData), vs = [v] ∧ Dp K H v d ∧ Q (.bl (f d)) H
abbrev nAre : List Str := ["web", "thing", "number"]
theorem scAre : FnScope nAre ["web", "thing"] (defScope (topS 16)) := ⟨rfl, rfl, rfl, by decide +kernel, rfl, by decide +kernel, by decide +kernel⟩
/-- numbers, for so many kinds -/
def numsB (n : Nat) : PyData → Bool
  | .tuple ds => decide (ds.length = n) && ds.all posB
  | _ => false
def spAre (K : PySem.W.Frag) : Sp := fun vs H Q _ => ∃ (v x : V) (g : Pg) (d : PyData), vs = [v, x] ∧ PgAt K H v g ∧ g.ok ∧ Dp K H x d ∧ ∀ H', Same H H' → Q (.bl (numsB g.es.length d)) H'
section
variable {P : Program} {w : World} {K : PySem.W.Frag} {mg : Str → Option Value} {base : Heap}
theorem ok_integer {f : Addr} {fd : FuncData} (F : Fun K "is_integer" "is_integer" (topS 12) f fd) (mi : mg "isinstance" = none) (mn : mg "int" = none) (mb : mg "bool" = none) : FnOk P w K mg base CX0 1 f fd ["thing"] (spB K intB) := by
  refine F.ok scInteger (fun vs H Q E h => ?_) (fun cdv A outer s H vs Q E hr h => ?_)
  · obtain ⟨v, d, rfl, _⟩ := h
    rfl
  · obtain ⟨v, d, rfl, hd, q⟩ := h
    refine ⟨_, pss_one (ps_ret (pe_and (pe_callB call_isi (by rfl) mi boot_isinstance (pa_cons (pv 0) (pa_cons (pe_bltn (v := .ty "int") (by rfl) mn (by decide +kernel) rfl) pa_nil))) (pe_one (pe_not (pe_callB call_isi (by rfl) mi boot_isinstance (pa_cons (pv 0) (pa_cons (pe_bltn (v := .ty "bool") (by rfl) mb (by decide +kernel) rfl) pa_nil))))))), ?_⟩
    refine ⟨v, rfl, v, .ty "int", _, _, _, rfl, .ty "int", ty_of hd, kit_int, ?_⟩
    refine ⟨_, rfl, ?_⟩
    have no : (intB d || boolB d) = true → Q (.bl (!boolB d)) H := fun z => by
      cases d <;> first | exact q | cases z
    cases z : intB d || boolB d
    · refine iteF ?_
      cases d <;> first | exact q | cases z
    · exact iteT ⟨v, rfl, v, .ty "bool", _, _, _, rfl, .ty "bool", ty_of hd, kit_bool, _, rfl, no z⟩
theorem ok_positive {f fI : Addr} {fd fdI : FuncData} (F : Fun K "is_positive" "is_positive" (topS 13) f fd) (I : Def K mg "is_integer" 12 ["thing"] fI fdI) (OI : FnOk P w K mg base CX0 1 fI fdI ["thing"] (spB K intB)) : FnOk P w K mg base CX0 2 f fd ["thing"] (spB K posB) := by
  refine F.ok scPositive (fun vs H Q E h => ?_) (fun cdv A outer s H vs Q E hr h => ?_)
  · obtain ⟨v, d, rfl, _⟩ := h
    rfl
  · obtain ⟨v, d, rfl, hd, q⟩ := h
    refine ⟨_, pss_one (ps_ret (pe_and (pe_call OI hr (by rfl) I.m I.F.kp I.b .nil pass0 (pa_cons (pv 0) pa_nil)) (pe_one (pe_cmpR op_ge (pv 0) pe_int (nomark _))))), ?_⟩
    refine ⟨v, rfl, v, d, rfl, hd, _, rfl, ?_⟩
    cases hd with
    | int n => exact iteT ⟨_, rfl, n, 1, rfl, rfl, q⟩
    | non => exact iteF q
    | bl b => exact iteF q
    | str x => exact iteF q
    | lst a b => exact iteF q
    | tup a b => exact iteF q
theorem ok_names {f : Addr} {fd : FuncData} (F : Fun K "names_of" "names_of" (topS 15) f fd) (mt : mg "tuple" = none) : FnOk P w K mg base CX0 1 f fd ["web"] (spNames K) := by
  refine F.ok scNames (fun vs H Q E h => ?_) (fun cdv A outer s H vs Q E hr h => ?_)
  · obtain ⟨v, g, rfl, _⟩ := h
    rfl
  · obtain ⟨v, g, rfl, ⟨p, r, ws, rfl, hp, hr', hE⟩, ok, q⟩ := h
    have lw := hE.len
    have l12 := ok.1
    refine ⟨_, pss_one (ps_ret (pe_callTy call_tupleF (by rfl) mt boot_tuple (pa_cons (pe_lc (own := [("row", 1)]) (g := gName 1) (by rfl) scNames.nd (pi_tup (pe_ix ix_tup (pv 0) pe_int (fun _ _ => rfl))) (blkOk_by (own := [("row", 1)]) (N := nNames) (sc := defScope (topS 15)) (by decide +kernel))
      (fun _ _ _ _ _ => pg_name (i := 1) scNames.nd rfl (Or.inl rfl)) (fun _ _ _ _ _ => pts_nil) (fun _ _ _ _ _ => pe_ix (r := rIxT K) ix_tup (pv 1) pe_int (fun _ _ => rfl))) pa_nil))), ?_⟩
    unfold tRet tCB tCons
    refine lc_mapT (a := r) (xs := ws) (g.es.map fun e => V.str e.name) (by simp; omega) (by omega) hr' (fun R k => ⟨.ref p, rfl, p, _, 0, .ref r, rfl, rfl, hp, atI_nat (j := 0) rfl, k⟩) (fun v => rfl) ?_ ?_
    · intro i x y G R hx hy sm k
      obtain ⟨e, he, hv⟩ := hE.get hx
      obtain ⟨e', he', rfl⟩ := map_get hy
      obtain rfl : e = e' := Option.some.inj (he.symm.trans he')
      obtain ⟨p1, r1, rfl, hp1, hr1⟩ := hv.same sm
      exact ⟨.ref p1, rfl, p1, _, 0, _, rfl, rfl, hp1, atI_nat (j := 0) rfl, k G (Same.refl G)⟩
    · intro D G nD sm hD
      exact ⟨D, _, rfl, .inl (.inl hD), fun t o nt oc od => q t o _ (putS sm (sm.free nt)) (sm.free nt) oc od upd_same⟩
theorem ok_are {f fP : Addr} {fd dP : FuncData} (F : Fun K "are_numbers" "are_numbers" (topS 16) f fd) (B : Def K mg "is_positive" 13 ["thing"] fP dP) (OB : FnOk P w K mg base CX0 2 fP dP ["thing"] (spB K posB))
    (ms : mg "isinstance" = none) (mt : mg "tuple" = none) (ml : mg "len" = none) (ma : mg "all" = none) : FnOk P w K mg base CX0 3 f fd ["web", "thing"] (spAre K) := by
  refine F.ok scAre (fun vs H Q E h => ?_) (fun cdv A outer s H vs Q E hr h => ?_)
  · obtain ⟨v, x, g, d, rfl, _⟩ := h
    rfl
  · obtain ⟨v, x, g, d, rfl, ⟨pp, pq, ws, rfl, hp, hw, hE⟩, ok, hd, q⟩ := h
    have lw := hE.len
    have l12 := ok.1
    refine ⟨_, pss_cons (ps_if (PW.pt (pw_or (pt_not (pt_val (pe_callB call_isi (by rfl) ms boot_isinstance (pa_cons (pv 1) (pa_cons (pe_bltn (v := .ty "tuple") (by rfl) mt (by decide +kernel) rfl) pa_nil)))))
        (pw_or1 (pt_cmpR op_ne (pe_callB call_len_seq (by rfl) ml PySem.boot_len (pa_cons (pv 1) pa_nil)) (pe_callB call_len_seq (by rfl) ml PySem.boot_len (pa_cons (pe_ix ix_tup (pv 0) pe_int (fun _ _ => rfl)) pa_nil)) (nomark _))))) (pss_one (ps_ret pe_bl)) pss_nil)
      (pss_one (ps_ret (pe_callB (cr_all (by rfl)) (by rfl) ma (by decide +kernel) (pa_cons (pe_lc (own := [("number", 2)]) (g := gName 2) (by rfl) scAre.nd (pi_tup (pv 1)) (blkOk_by (own := [("number", 2)]) (N := nAre) (sc := defScope (topS 16)) (by decide +kernel))
        (fun _ _ _ _ _ => pg_name (i := 2) scAre.nd rfl (Or.inl rfl)) (fun _ _ _ _ _ => pts_nil) (fun _ _ _ _ _ => pe_call OB hr (by rfl) B.m B.F.kp B.b .nil pass0 (pa_cons (pv 2) pa_nil))) pa_nil)))), ?_⟩
    refine ⟨x, rfl, x, .ty "tuple", _, _, _, rfl, .ty "tuple", ty_of hd, kit_tup, _, rfl, ?_⟩
    cases hd with
    | tup ht hds =>
      rename_i p xs ds
      have lx : xs.length = ds.length := dsLen hds
      refine iteF ⟨.ref p, rfl, p, xs, rfl, .inr ht, .ref pp, rfl, pp, _, 0, .ref pq, rfl, rfl, hp, atI_nat (j := 0) rfl, pq, ws, rfl, .inr hw, rfl, _, rfl, ?_⟩
      by_cases z : ds.length = g.es.length
      · rw [decide_eq_true (show V.int (xs.length : Nat) = V.int (ws.length : Nat) by rw [lx, lw, z])]
        refine iteF ?_
        dsimp only [tRet, tCB, tCons, tNext, tSeq]
        refine lc_mapT (a := p) (xs := xs) ((ds.map posB).map V.bl) (by simp; omega) (by omega) ht (fun R k => ⟨_, rfl, k⟩) (fun v => rfl) ?_ ?_
        · intro i x y G R hx hy sm k
          obtain ⟨di, hdi, dp⟩ := dsAt hds i x hx
          obtain ⟨b, hb, rfl⟩ := map_get hy
          obtain ⟨dj, hdj, rfl⟩ := map_get hb
          obtain rfl : di = dj := Option.some.inj (hdi.symm.trans hdj)
          exact ⟨x, rfl, x, di, rfl, dKeep sm dp, k G (Same.refl G)⟩
        · intro D G nD sm hD
          refine ⟨D, ds.map posB, rfl, .inl (.inl hD), ?_⟩
          have e : numsB g.es.length (.tuple ds) = (ds.map posB).all id := by
            show (decide (ds.length = g.es.length) && ds.all posB) = _
            rw [decide_eq_true z, Bool.true_and, List.all_map]
            rfl
          rw [← e]
          exact q G sm
      · rw [decide_eq_false (show ¬ V.int (xs.length : Nat) = V.int (ws.length : Nat) from fun y => z (by have := V.int.inj y; omega))]
        have e : numsB g.es.length (.tuple ds) = false := by
          show (decide (ds.length = g.es.length) && ds.all posB) = _
          rw [decide_eq_false z, Bool.false_and]
        rw [e] at q
        exact iteT (q H (Same.refl H))
    | non => exact iteT (q H (Same.refl H))
    | bl b => exact iteT (q H (Same.refl H))
    | int n => exact iteT (q H (Same.refl H))
    | str y => exact iteT (q H (Same.refl H))
    | lst a b => exact iteT (q H (Same.refl H))
end
end Kn


namespace Kn
open PySem PySem.Spec PyProof.Rows L2
/-! ### a list of all items of some lists -/
theorem lc2_flat {K : PySem.W.Frag} {a : Addr} {xs : List V} {s0 s1 : Nat} {tl1 : TE} {vs vs1 : List Nat} {σ : L2.St} {H1 : Hp} {Q : VK} (Acc : Nat → Hp → List V → Prop) (hT : SqT K H1 a xs) (few : xs.length ≤ 1000)
    (a0 : ∀ G, Acc 0 G []) (ats : ∀ i G G' acc, Acc i G acc → TS G G' → Acc i G' acc)
    (w0 : ∀ v, wipe ((wipe σ vs).set s0 (some v)) vs = wipe σ vs) (w1 : ∀ v u, wipe ((wipe ((wipe σ vs).set s0 (some v)) vs1).set s1 (some u)) vs1 = wipe ((wipe σ vs).set s0 (some v)) vs1)
    (get : ∀ v u, ((wipe ((wipe σ vs).set s0 (some v)) vs1).set s1 (some u))[s1]? = some (some u))
    (inner : ∀ (i : Nat) (x : V) (G : Hp) (R : VK), xs[i]? = some x → Same H1 G → (∀ (L : Addr) (ws : List V) (G' : Hp), Same G G' → G L = none → G' L = some (.lst ws) → ws.length ≤ 1000 → (∀ acc, Acc i G' acc → Acc (i + 1) G' (acc ++ ws)) → R (.ref L) G') → tl1 ((wipe σ vs).set s0 (some x)) G R)
    (done : ∀ (D : Addr) (G : Hp) (acc : List V), H1 D = none → Same H1 G → G D = some (.lst acc) → acc.length ≤ 1000000 → Acc xs.length G acc → Q (.ref D) G) :
    ∀ D, H1 D = none → ∃ W : Nat → Nat → Hp → Prop, (∃ m, W 0 m (upd H1 D (.lst []))) ∧ ∀ i m H, W i m H →
      ((Itt K a).stop i H ∧ Q (.ref D) H) ∨ ((Itt K a).go i H ∧ ∃ Nx : Hp → Prop, (∀ H', Nx H' → ∃ m', m' < m ∧ W (i + 1) m' H') ∧ ∀ x H', (Itt K a).yld i H x H' → gName s0 x (wipe σ vs) H' fun σ2 H2 => wipe σ2 vs = wipe σ vs ∧ tYes σ2 H2 fun b H3 =>
        if b = true then iList K tl1 σ2 H3 fun J1 H4 => ∃ W1 : Nat → Nat → Hp → Prop, (∃ m, W1 0 m H4) ∧ ∀ j k H, W1 j k H →
          (J1.stop j H ∧ Nx H) ∨ (J1.go j H ∧ ∃ Nx1 : Hp → Prop, (∀ H', Nx1 H' → ∃ k', k' < k ∧ W1 (j + 1) k' H') ∧ ∀ x H', J1.yld j H x H' → gName s1 x (wipe σ2 vs1) H' fun σ3 H5 => wipe σ3 vs1 = wipe σ2 vs1 ∧ tYes σ3 H5 fun b H6 =>
            if b = true then tVar s1 σ3 H6 fun y H7 => ∃ acc, H7 D = some (.lst acc) ∧ acc.length < sizeLine ∧ Nx1 (upd H7 D (.lst (acc ++ [y]))) else Nx1 H6)
        else Nx H3) := by
  intro D nD
  have big : 1000000 < sizeLine := by decide
  refine ⟨fun i m G => m = xs.length - i ∧ i ≤ xs.length ∧ Same H1 G ∧ ∃ acc, G D = some (.lst acc) ∧ acc.length ≤ 1000 * i ∧ Acc i G acc, ⟨xs.length, by simp, Nat.zero_le _, same_new nD, [], upd_same, Nat.zero_le _, a0 _⟩, ?_⟩
  rintro i m G ⟨rfl, hi, sG, acc, eD, lacc, hacc⟩
  have q := sameDp sG hT
  by_cases lt : i < xs.length
  · refine .inr ⟨⟨xs, xs[i], q, by simp [lt]⟩, fun G3 => Same H1 G3 ∧ ∃ acc', G3 D = some (.lst acc') ∧ acc'.length ≤ 1000 * (i + 1) ∧ Acc (i + 1) G3 acc', fun G3 ⟨s3, z⟩ => ⟨xs.length - (i + 1), by omega, rfl, lt, s3, z⟩, fun x G' y => ?_⟩
    obtain ⟨rfl, y⟩ := y
    refine ⟨w0 x, ?_⟩
    dsimp only [gName, tYes]
    refine iteT ?_
    refine inner i x _ _ (y xs q) sG fun L ws G2 s2 nL eL lws nx => ?_
    have eD2 := s2 _ _ eD
    have neDL : D ≠ L := ne_of_none eD nL
    refine ⟨L, rfl, ⟨ws, .inl (.inl eL)⟩, fun j k G4 => k = ws.length - j ∧ j ≤ ws.length ∧ Same H1 G4 ∧ TS G2 G4 ∧ G4 L = some (.lst ws) ∧ G4 D = some (.lst (acc ++ ws.take j)), ⟨ws.length, by simp, Nat.zero_le _, sG.trans s2, TS.refl G2, eL, by rw [List.take_zero, List.append_nil]; exact eD2⟩, ?_⟩
    rintro j k G4 ⟨rfl, hj, s4, t4, e4, d4⟩
    by_cases ltj : j < ws.length
    · refine .inr ⟨⟨ws, ws[j], .inl (.inl e4), by simp [ltj]⟩, fun G5 => j + 1 ≤ ws.length ∧ Same H1 G5 ∧ TS G2 G5 ∧ G5 L = some (.lst ws) ∧ G5 D = some (.lst (acc ++ ws.take (j + 1))), fun G5 ⟨z1, z2⟩ => ⟨ws.length - (j + 1), by omega, rfl, z1, z2⟩, fun u G5 yy => ?_⟩
      obtain ⟨rfl, yy⟩ := yy
      have hu := yy ws (.inl (.inl e4))
      refine ⟨w1 x u, iteT ⟨u, get x u, acc ++ ws.take j, d4, ?_, ltj, putS s4 nD, t4.trans (ts_lst d4), ?_, ?_⟩⟩
      · rw [List.length_append, List.length_take]
        have : 1000 * i ≤ 1000 * xs.length := Nat.mul_le_mul_left _ hi
        have : 1000 * (i + 1) ≤ 1000 * 1000 := Nat.mul_le_mul_left _ (by omega)
        omega
      · rw [upd_ne neDL.symm]
        exact e4
      · rw [upd_same, List.take_add_one, hu, List.append_assoc]
        rfl
    · have e : j = ws.length := by omega
      subst e
      refine .inl ⟨⟨ws, .inl (.inl e4), Nat.le_refl _⟩, s4, acc ++ ws, by rw [d4, List.take_length], ?_, ?_⟩
      · rw [List.length_append]
        omega
      · exact ats _ _ _ _ (nx acc (ats _ _ _ _ hacc (ts_same s2))) t4
  · have e : i = xs.length := by omega
    subst e
    refine .inl ⟨⟨xs, q, Nat.le_refl _⟩, done D _ acc nD sG eD ?_ hacc⟩
    have : 1000 * xs.length ≤ 1000 * 1000 := Nat.mul_le_mul_left _ few
    omega
/-! ### stores -/
def StAt (K : PySem.W.Frag) (H : Hp) : List V → List (Str × Nat) → Prop
  | [], [] => True
  | v :: vs, s :: ss => (∃ p, v = .ref p ∧ SqT K H p [.str s.1, .int (s.2 : Nat)]) ∧ StAt K H vs ss
  | _, _ => False
def dSt (s : Str × Nat) : PyData := .tuple [.str s.1, .int (s.2 : Nat)]
theorem StAt.ts {K : PySem.W.Frag} {H H' : Hp} (t : TS H H') : ∀ {vs : List V} {ss : List (Str × Nat)}, StAt K H vs ss → StAt K H' vs ss
  | [], [], _ => trivial
  | _ :: _, _ :: _, ⟨⟨p, e, h⟩, r⟩ => ⟨⟨p, e, tupT t h⟩, StAt.ts t r⟩
  | [], _ :: _, h => h.elim
  | _ :: _, [], h => h.elim
theorem StAt.app {K : PySem.W.Frag} {H : Hp} : ∀ {vs ws : List V} {ss tt : List (Str × Nat)}, StAt K H vs ss → StAt K H ws tt → StAt K H (vs ++ ws) (ss ++ tt)
  | [], _, [], _, _, k => k
  | _ :: _, _, _ :: _, _, ⟨h, r⟩, k => ⟨h, StAt.app r k⟩
  | [], _, _ :: _, _, h, _ => h.elim
  | _ :: _, _, [], _, h, _ => h.elim
theorem StAt.dp {K : PySem.W.Frag} {H : Hp} : ∀ {vs : List V} {ss : List (Str × Nat)}, StAt K H vs ss → DpAll K H vs (ss.map dSt)
  | [], [], _ => .nil
  | _ :: _, _ :: _, ⟨⟨p, e, h⟩, r⟩ => by
    subst e
    exact .cons (.tup h (.cons (.str _) (.cons (.int _) .nil))) (StAt.dp r)
  | [], _ :: _, h => h.elim
  | _ :: _, [], h => h.elim
theorem StAt.len {K : PySem.W.Frag} {H : Hp} : ∀ {vs : List V} {ss : List (Str × Nat)}, StAt K H vs ss → vs.length = ss.length
  | [], [], _ => rfl
  | _ :: _, _ :: _, ⟨_, r⟩ => congrArg Nat.succ (StAt.len r)
  | [], _ :: _, h => h.elim
  | _ :: _, [], h => h.elim
/-- the stores of one kind -/
def ofKind (k : Str) (m : Nat) : List (Str × Nat) := (List.range m).map fun i => (k, i)
/-- the stores of all kinds -/
def allSt (ks : List Str) (ms : List Nat) : List (Str × Nat) := (ks.zip ms).flatMap fun p => ofKind p.1 p.2
theorem lc_ofK {K : PySem.W.Frag} {slot : Nat} {te : TE} {ta : TA} {vs : List Nat} {σ : L2.St} {H : Hp} {Q : VK} (k : Str) (m : Nat) (few : m ≤ 1000) (hta : ∀ R : List V → Hp → Prop, R [.int (m : Nat)] H → ta σ H R)
    (w : ∀ v, wipe ((wipe σ vs).set slot (some v)) vs = wipe σ vs)
    (turn : ∀ (i : Nat) (G : Hp) (R : VK), i < m → Same H G → (∀ t, G t = none → R (.ref t) (upd G t (.tup [.str k, .int (i : Nat)]))) → te ((wipe σ vs).set slot (some (.int (i : Nat)))) G R)
    (done : ∀ (D : Addr) (ws : List V) (G : Hp), H D = none → Same H G → G D = some (.lst ws) → StAt K G ws (ofKind k m) → Q (.ref D) G) : tLc (iRng1 ta) (gName slot) tYes te vs σ H Q := by
  refine hta _ ⟨m, rfl, by omega, by omega, fun D nD => ?_⟩
  refine lc_range (lo := 0) (n := (m : Int).toNat) (fun i G => Same H G ∧ ∃ ws : List V, G D = some (.lst ws) ∧ ws.length = i ∧ StAt K G ws (ofKind k i)) ⟨same_new nD, [], upd_same, rfl, trivial⟩ ?_ ?_
  · rintro i G hi ⟨sm, ws, hD, lw, hw⟩
    have hi : i < m := hi
    refine ⟨w _, ?_⟩
    dsimp only [tYes]
    refine iteT ?_
    rw [Int.zero_add]
    refine turn i G _ hi sm fun t nt => ?_
    have ne : D ≠ t := ne_of_none hD nt
    refine ⟨ws, (upd_ne ne).trans hD, small' (by omega), putS (putS sm (sm.free nt)) nD, ws ++ [.ref t], upd_same, by simp [lw], ?_⟩
    have t1 : TS G (upd G t (.tup [.str k, .int (i : Nat)])) := ts_same (same_new nt)
    have t2 : TS (upd G t (.tup [.str k, .int (i : Nat)])) (upd (upd G t (.tup [.str k, .int (i : Nat)])) D (.lst (ws ++ [.ref t]))) := ts_lst ((upd_ne ne).trans hD)
    have e : ofKind k (i + 1) = ofKind k i ++ [(k, i)] := by
      unfold ofKind
      rw [List.range_succ, List.map_append]
      rfl
    rw [e]
    exact StAt.app ((hw.ts t1).ts t2) ⟨⟨t, rfl, tupT t2 (.inl (.inl upd_same))⟩, trivial⟩
  · rintro G ⟨sm, ws, hD, lw, hw⟩
    exact done D ws G nD sm hD hw
theorem lc_ofK3 {K : PySem.W.Frag} {slot : Nat} {te : TE} {ta : TA} {vs : List Nat} {σ : L2.St} {H : Hp} {Q : VK} (k : Str) (m : Nat) (few : m ≤ 1000) (hta : ∀ R : List V → Hp → Prop, (∀ H1, Same H H1 → R [.int (m : Nat)] H1) → ta σ H R)
    (w : ∀ v, wipe ((wipe σ vs).set slot (some v)) vs = wipe σ vs)
    (turn : ∀ (i : Nat) (G : Hp) (R : VK), i < m → Same H G → (∀ t, G t = none → R (.ref t) (upd G t (.tup [.str k, .int (i : Nat)]))) → te ((wipe σ vs).set slot (some (.int (i : Nat)))) G R)
    (done : ∀ (D : Addr) (ws : List V) (G : Hp), H D = none → Same H G → G D = some (.lst ws) → StAt K G ws (ofKind k m) → Q (.ref D) G) : tLc (iRng1 ta) (gName slot) tYes te vs σ H Q := by
  refine hta _ fun H1 s1 => ?_
  show tLc (iRng1 (fun _ H R => R [.int (m : Nat)] H)) (gName slot) tYes te vs σ H1 Q
  exact lc_ofK (K := K) k m few (fun R r => r) w (fun i G R hi s h => turn i G R hi (s1.trans s) h) (fun D ws G nD s e h => done D ws G (s1.free nD) (s1.trans s) e h)
abbrev nOfK : List Str := ["web", "numbers", "kind", "i"]
theorem scOfK : FnScope nOfK ["web", "numbers", "kind"] (defScope (topS 19)) := ⟨rfl, rfl, rfl, by decide +kernel, rfl, by decide +kernel, by decide +kernel⟩
abbrev nNo : List Str := ["web", "numbers", "kind"]
theorem scNo : FnScope nNo ["web", "numbers", "kind"] (defScope (topS 18)) := ⟨rfl, rfl, rfl, by decide +kernel, rfl, by decide +kernel, by decide +kernel⟩
def spNo (K : PySem.W.Frag) : Sp := fun vs H Q _ => ∃ (v x : V) (g : Pg) (ms : List Nat) (k : Str) (j m : Nat), vs = [v, x, .str k] ∧ PgAt K H v g ∧ g.ok ∧ (∃ p, x = .ref p ∧ SqT K H p (ms.map fun n => V.int (n : Nat))) ∧
  (g.es.map (·.name))[j]? = some k ∧ (∀ i, i < j → (g.es.map (·.name))[i]? ≠ some k) ∧ ms[j]? = some m ∧ ∀ (H' : Hp), Same H H' → Q (.int (m : Nat)) H'
def spOfK (K : PySem.W.Frag) : Sp := fun vs H Q _ => ∃ (v x : V) (g : Pg) (ms : List Nat) (k : Str) (j m : Nat), vs = [v, x, .str k] ∧ PgAt K H v g ∧ g.ok ∧ (∃ p, x = .ref p ∧ SqT K H p (ms.map fun n => V.int (n : Nat))) ∧
  (g.es.map (·.name))[j]? = some k ∧ (∀ i, i < j → (g.es.map (·.name))[i]? ≠ some k) ∧ ms[j]? = some m ∧ m ≤ 1000 ∧ ∀ (L : Addr) (ws : List V) (H' : Hp), Same H H' → H L = none → H' L = some (.lst ws) → StAt K H' ws (ofKind k m) → Q (.ref L) H'
section
variable {P : Program} {w : World} {K : PySem.W.Frag} {mg : Str → Option Value} {base : Heap}
theorem ok_no {f fN : Addr} {fd dN : FuncData} (F : Fun K "number_of" "number_of" (topS 18) f fd) (N : Def K mg "names_of" 15 ["web"] fN dN) (ON : FnOk P w K mg base CX0 1 fN dN ["web"] (spNames K)) :
    FnOk P w K mg base CX0 2 f fd ["web", "numbers", "kind"] (spNo K) := by
  refine F.ok scNo (fun vs H Q E h => ?_) (fun cdv A outer s H vs Q E hr h => ?_)
  · obtain ⟨v, x, g, ms, k, j, m, rfl, _⟩ := h
    rfl
  · obtain ⟨v, x, g, ms, k, j, m, rfl, hP, ok, ⟨p, rfl, hx⟩, hj, no, hm, q⟩ := h
    refine ⟨_, pss_one (ps_ret (pe_ix ix_tup (pv 1) (pe_tidx (pe_call ON hr (by rfl) N.m N.F.kp N.b .nil pass0 (pa_cons (pv 0) pa_nil)) (pa_cons (pv 2) pa_nil)) (fun _ _ => rfl))), ?_⟩
    refine ⟨.ref p, rfl, v, rfl, v, g, rfl, hP, ok, fun pn o H1 s1 nn oc od hpn => ?_⟩
    have hk : (g.es.map fun e => V.str e.name) = (g.es.map (·.name)).map V.str := by
      rw [List.map_map]
      rfl
    rw [hk] at hpn
    refine ⟨pn, o, _, rfl, hpn, oc, od, .str k, rfl, g.es.map (·.name), k, j, rfl, (.inl (.inr ⟨o, hpn⟩)), hj, no, ?_⟩
    exact ⟨p, _, j, .int (m : Nat), rfl, rfl, tupS s1 hx, atI_nat (by rw [List.getElem?_map, hm]; rfl), q _ s1⟩
theorem ok_ofK {f fN : Addr} {fd dN : FuncData} (F : Fun K "stores_of_kind" "stores_of_kind" (topS 19) f fd) (N : Def K mg "number_of" 18 ["web", "numbers", "kind"] fN dN) (ON : FnOk P w K mg base CX0 2 fN dN ["web", "numbers", "kind"] (spNo K)) (mr : mg "range" = none) :
    FnOk P w K mg base CX0 3 f fd ["web", "numbers", "kind"] (spOfK K) := by
  refine F.ok scOfK (fun vs H Q E h => ?_) (fun cdv A outer s H vs Q E hr h => ?_)
  · obtain ⟨v, x, g, ms, k, j, m, rfl, _⟩ := h
    rfl
  · obtain ⟨v, x, g, ms, k, j, m, rfl, hP, ok, ⟨p, rfl, hx⟩, hj, no, hm, few, q⟩ := h
    refine ⟨_, pss_one (ps_ret (pe_lc (own := [("i", 3)]) (g := gName 3) (by rfl) scOfK.nd (pi_range1 (by rfl) mr (pa_cons (pe_call ON hr (by rfl) N.m N.F.kp N.b .nil pass0 (pa_cons (pv 0) (pa_cons (pv 1) (pa_cons (pv 2) pa_nil)))) pa_nil)) (blkOk_by (own := [("i", 3)]) (N := nOfK) (sc := defScope (topS 19)) (by decide +kernel))
        (fun _ _ _ _ _ => pg_name (i := 3) scOfK.nd rfl (Or.inl rfl)) (fun _ _ _ _ _ => pts_nil) (fun _ _ _ _ _ => pe_tup (pa_cons (pv 2) (pa_cons (pv 3) pa_nil))))), ?_⟩
    dsimp only [tRet]
    refine lc_ofK3 (K := K) k m few ?_ ?_ ?_ ?_
    · exact fun R h => ⟨v, rfl, .ref p, rfl, .str k, rfl, v, .ref p, g, ms, k, j, m, rfl, hP, ok, ⟨p, rfl, hx⟩, hj, no, hm, fun H1 s1 => h H1 s1⟩
    · exact fun v => rfl
    · refine fun i G R hi sm h => ?_
      exact ⟨_, rfl, _, rfl, (show 2 ≤ sizeLine by decide), fun t nt => h t nt⟩
    · refine fun D ws G nD sm hD hw => ?_
      exact q D ws G sm nD hD hw
end
end Kn


namespace Kn
open PySem PySem.Spec PyProof.Rows L2
def numD (ms : List Nat) : PyData := .tuple (ms.map fun n => .int (n : Nat))
theorem intsD {K : PySem.W.Frag} {H : Hp} : ∀ {ms : List Nat} {vs : List V}, DpAll K H vs (ms.map fun n => PyData.int (n : Nat)) → vs = ms.map fun n => V.int (n : Nat)
  | [], _, .nil => rfl
  | _ :: _, _, .cons (.int _) r => by rw [intsD r]; rfl
theorem numsB_num {ms : List Nat} (h : ∀ m ∈ ms, 1 ≤ m) : numsB ms.length (numD ms) = true := by
  show (decide ((ms.map fun n => PyData.int (n : Nat)).length = ms.length) && (ms.map fun n => PyData.int (n : Nat)).all posB) = true
  rw [List.length_map, decide_eq_true rfl, Bool.true_and, List.all_eq_true]
  intro d hd
  obtain ⟨m, hm, rfl⟩ := List.mem_map.mp hd
  exact decide_eq_true (by have := h m hm; show (1 : Int) ≤ (m : Nat); omega)
def spStores (K : PySem.W.Frag) (D : Addr) : Sp := fun vs H Q E => ∃ (v x : V) (g : Pg) (d : PyData), vs = [v, x] ∧ PgAt K H v g ∧ g.ok ∧ (g.es.map (·.name)).Nodup ∧ Dp K H x d ∧
  ((∃ ms : List Nat, d = numD ms ∧ ms.length = g.es.length ∧ (∀ m ∈ ms, 1 ≤ m ∧ m ≤ 1000) ∧ ∀ (p : Addr) (ws : List V) (H' : Hp), Same H H' → H p = none → H' p = some (.tup ws) → StAt K H' ws (allSt (g.es.map (·.name)) ms) → Q (.ref p) H') ∨
   (numsB g.es.length d = false ∧ ∀ (dx : Addr) (H' : Hp), Same H H' → H' dx = none → E (.ref D) (some dx) (upd H' dx (.xd [("at", .int (-1)), ("word", .str "numbers")]))))
abbrev nSto : List Str := ["web", "numbers", "kind", "store"]
theorem scSto : FnScope nSto ["web", "numbers"] (defScope (topS 20)) := ⟨rfl, rfl, rfl, by decide +kernel, rfl, by decide +kernel, by decide +kernel⟩
theorem allSt_take {ks : List Str} {ms : List Nat} {i : Nat} {k : Str} {m : Nat} (hk : ks[i]? = some k) (hm : ms[i]? = some m) : allSt (ks.take (i + 1)) (ms.take (i + 1)) = allSt (ks.take i) (ms.take i) ++ ofKind k m := by
  unfold allSt
  rw [List.take_add_one, List.take_add_one, hk, hm, List.zip_append (by
    have h1 := (List.getElem?_eq_some_iff.mp hk).1
    have h2 := (List.getElem?_eq_some_iff.mp hm).1
    rw [List.length_take, List.length_take]; omega), List.flatMap_append]
  simp
abbrev nCk : List Str := ["web", "thing"]
theorem scCk : FnScope nCk ["web", "thing"] (defScope (topS 17)) := ⟨rfl, rfl, rfl, by decide +kernel, rfl, by decide +kernel, by decide +kernel⟩
def spCk (K : PySem.W.Frag) (D : Addr) : Sp := fun vs H Q E => ∃ (v x : V) (g : Pg) (d : PyData), vs = [v, x] ∧ PgAt K H v g ∧ g.ok ∧ Dp K H x d ∧
  ((numsB g.es.length d = true ∧ ∀ H', Same H H' → Q .non H') ∨ (numsB g.es.length d = false ∧ ∀ (dx : Addr) (H' : Hp), Same H H' → H' dx = none → E (.ref D) (some dx) (upd H' dx (.xd [("at", .int (-1)), ("word", .str "numbers")]))))
section
variable {P : Program} {w : World} {K : PySem.W.Frag} {mg : Str → Option Value} {base : Heap}
theorem ok_ck {f fA fI D : Addr} {fd dA fdI : FuncData} (F : Fun K "check_numbers" "check_numbers" (topS 17) f fd) (A' : Def K mg "are_numbers" 16 ["web", "thing"] fA dA) (OA : FnOk P w K mg base CX0 3 fA dA ["web", "thing"] (spAre K))
    (T : ErrM K mg D fI fdI) : FnOk P w K mg base (L2.CX P w) 4 f fd ["web", "thing"] (spCk K D) := by
  have GI : FnOk P w K mg base CX0 1 fI fdI ["self", "word", "at"] (spInit K D) := ok_init T
  refine F.okX scCk (fun vs H Q E h => ?_) (fun cdv A outer s H vs Q E hr h => ?_)
  · obtain ⟨v, x, g, d, rfl, _⟩ := h
    rfl
  · obtain ⟨v, x, g, d, rfl, hP, ok, hd, q⟩ := h
    have hr2 : Room 2 (A.deeper (envOfC "check_numbers" (defScope (topS 17)) s.heap.objs.size f cdv)) := hr.mono (by decide)
    refine ⟨_, pss_one (ps_if (pt_not (pt_val (PE.nox (pe_call OA hr (by rfl) A'.m A'.F.kp A'.b .nil pass0 (pa_cons (pv 0) (pa_cons (pv 1) pa_nil))))))
        (pss_one (ps_raise rfl (takes_of rfl rfl rfl rfl) (pmk_oex T.x T.i T.t GI hr2 T.b .nil pass0 rfl T.m (pa_cons pe_str (pa_cons (pe_un un_neg pe_int) pa_nil))))) pss_nil), ?_⟩
    refine ⟨v, rfl, x, rfl, v, x, g, d, rfl, hP, ok, hd, fun H1 s1 => ?_⟩
    rcases q with ⟨yes, q⟩ | ⟨no, q⟩
    · rw [yes]
      exact ⟨true, rfl, iteF (q H1 s1)⟩
    · rw [no]
      refine ⟨false, rfl, iteT ?_⟩
      refine ⟨1, rfl, (show 2 ≤ 1000 by decide), fun a ha => ⟨a, .str "numbers", .int (-1), rfl, upd_same, fun dx nd ne => ⟨rfl, dx, _, ?_, upd_same, ?_, ?_⟩⟩⟩
      · rw [upd_ne ne.symm, upd_same]
      · rw [upd_ne ne] at nd
        exact nd
      · rw [upd_ne ne] at nd
        show E _ _ _
        rw [made_raise ha ne]
        exact q dx H1 s1 nd
theorem ok_stores {f fA fN fO D : Addr} {fd dA dN dO : FuncData} (F : Fun K "stores_of" "stores_of" (topS 20) f fd) (A' : Def K mg "check_numbers" 17 ["web", "thing"] fA dA) (OA : FnOk P w K mg base (L2.CX P w) 4 fA dA ["web", "thing"] (spCk K D))
    (N : Def K mg "names_of" 15 ["web"] fN dN) (ON : FnOk P w K mg base CX0 1 fN dN ["web"] (spNames K)) (O : Def K mg "stores_of_kind" 19 ["web", "numbers", "kind"] fO dO) (OO : FnOk P w K mg base CX0 3 fO dO ["web", "numbers", "kind"] (spOfK K))
    (mt : mg "tuple" = none) : FnOk P w K mg base (L2.CX P w) 5 f fd ["web", "numbers"] (spStores K D) := by
  refine F.okX scSto (fun vs H Q E h => ?_) (fun cdv A outer s H vs Q E hr h => ?_)
  · obtain ⟨v, x, g, d, rfl, _⟩ := h
    rfl
  · obtain ⟨v, x, g, d, rfl, hP, ok, nd, hd, q⟩ := h
    have l12 := ok.1
    have hr1 : Room 1 (A.deeper (envOfC "stores_of" (defScope (topS 20)) s.heap.objs.size f cdv)) := hr.mono (by decide)
    have hr2 : Room 3 (A.deeper (envOfC "stores_of" (defScope (topS 20)) s.heap.objs.size f cdv)) := hr.mono (by decide)
    refine ⟨_, pss_cons (ps_expr (pe_call OA hr (by rfl) A'.m A'.F.kp A'.b .nil (passes_call (takes_of rfl rfl rfl rfl) (fun _ _ _ _ h => h)) (pa_cons (pv 0) (pa_cons (pv 1) pa_nil))))
      (pss_one (ps_ret (PE.nox (pe_callTy call_tuple_of (by rfl) mt boot_tuple (pa_cons (pe_lc2 (wi1 := iList K (tCall (spOfK K) [] E0 (tCons (tVar 0) (tCons (tVar 1) (tCons (tVar 2) tNil))))) (own := [("kind", 2), ("store", 3)]) (vs1 := [3]) (g := gName 2) (g1 := gName 3) (by rfl) scSto.nd (pi_tup (pe_call ON hr1 (by rfl) N.m N.F.kp N.b .nil pass0 (pa_cons (pv 0) pa_nil))) (blkOk_by (own := [("kind", 2), ("store", 3)]) (N := nSto) (sc := defScope (topS 20)) (by decide +kernel)) (by decide)
        (fun _ _ _ _ _ => pg_name (i := 2) scSto.nd rfl (Or.inl rfl)) (fun _ _ _ _ _ => pts_nil)
        ?hi1
        (fun _ _ _ _ _ => pg_name (i := 3) scSto.nd rfl (Or.inl rfl)) (fun _ _ _ _ _ => pts_nil) (fun _ _ _ _ _ => pv 3)) pa_nil))))), ?_⟩
    case hi1 => exact fun _ _ _ _ _ => pi_list (pe_call OO hr2 (by rfl) O.m O.F.kp O.b .nil pass0 (pa_cons (pv 0) (pa_cons (pv 1) (pa_cons (pv 2) pa_nil))))
    refine ⟨v, rfl, x, rfl, v, x, g, d, rfl, hP, ok, hd, ?_⟩
    rcases q with ⟨ms, rfl, lm, bm, q⟩ | ⟨no, q⟩
    · have yes : numsB g.es.length (numD ms) = true := by
        rw [← lm]
        exact numsB_num fun m hm => (bm m hm).1
      refine .inl ⟨yes, fun H1 s1 => ?_⟩
      obtain ⟨px, xs, rfl, hx, hxs⟩ : ∃ px xs, x = .ref px ∧ SqT K H px xs ∧ DpAll K H xs (ms.map fun n => PyData.int (n : Nat)) := by
        cases hd with
        | tup a b => exact ⟨_, _, rfl, a, b⟩
      obtain rfl := intsD hxs
      refine ⟨v, rfl, v, g, rfl, hP.same s1, ok, fun pn o H2 s2 nn oc od hpn => ?_⟩
      have s12 := s1.trans s2
      have hT : SqT K H2 pn (g.es.map fun e => V.str e.name) := .inl (.inr ⟨o, hpn⟩)
      refine ⟨pn, rfl, ⟨_, hT⟩, ?_⟩
      dsimp only [tNil, tNext, tRet]
      refine lc2_flat (K := K) (Q := fun x G => ∃ p ys, [x] = [V.ref p] ∧ ((SqL K G p ys ∧ ∀ l, G l = none → Q (.ref l) (upd G l (.tup ys))) ∨ (SqT K G p ys ∧ Q (.ref p) G))) (s0 := 2) (s1 := 3) (vs := [2, 3]) (vs1 := [3]) (σ := L2.start nSto [v, .ref px]) (tl1 := tCall (spOfK K) [] E0 (tCons (tVar 0) (tCons (tVar 1) (tCons (tVar 2) tNil)))) (fun i G acc => StAt K G acc (allSt ((g.es.map (fun e : Ent => e.name)).take i) (ms.take i))) hT (by rw [List.length_map]; omega) (fun G => trivial) (fun i G G' acc h t => h.ts t) ?_ ?_ ?_ ?_ ?_
      · exact fun v => rfl
      · exact fun v u => rfl
      · exact fun v u => rfl
      · intro i u G R hu sm k
        obtain ⟨e, he, rfl⟩ := map_get hu
        have hi : i < g.es.length := (List.getElem?_eq_some_iff.mp he).1
        have hm : ms[i]? = some (ms[i]'(by omega)) := List.getElem?_eq_getElem (by omega)
        generalize ms[i]'(by omega) = m at hm
        have hn : (g.es.map (·.name))[i]? = some e.name := by rw [List.getElem?_map, he]; rfl
        have s3 := s12.trans sm
        refine ⟨v, rfl, .ref px, rfl, .str e.name, rfl, v, .ref px, g, ms, e.name, i, m, rfl, hP.same s3, ok, ⟨px, rfl, tupS s3 hx⟩, hn, fun j hj z => ?_, hm, (bm m (List.mem_of_getElem? hm)).2, fun L ws G' s' nL eL hw => ?_⟩
        · exact absurd ((List.getElem?_inj (by rw [List.length_map]; omega) nd).mp (z.trans hn.symm)) (by omega)
        · refine k L ws G' s' nL eL ?_ fun acc hacc => ?_
          · rw [hw.len]
            unfold ofKind
            rw [List.length_map, List.length_range]
            exact (bm m (List.mem_of_getElem? hm)).2
          · rw [allSt_take hn hm]
            exact StAt.app hacc hw
      · intro D G acc nD sG eD lacc hacc
        rw [List.length_map] at hacc
        rw [List.take_of_length_le (by rw [List.length_map]; omega), List.take_of_length_le (by omega)] at hacc
        refine ⟨D, acc, rfl, .inl ⟨.inl (.inl eD), fun t nt => ?_⟩⟩
        have s4 := s12.trans sG
        exact q t acc _ (putS s4 (s4.free nt)) (s4.free nt) upd_same (hacc.ts (ts_same (same_new nt)))
    · exact .inr ⟨no, q⟩
end
end Kn


/-! Kn: a comprehension with a filter over a tuple; a text among texts. -/
namespace Kn
open PySem PySem.Spec PyProof.Rows L2
theorem lc_pickT {K : PySem.W.Frag} {a : Addr} {xs : List V} {slot : Nat} {te tl : TE} {tt : TT} {vs : List Nat} {σ : L2.St} {H : Hp} {Q : VK} (ys : List (Bool × V)) (hl : ys.length = xs.length) (hs : xs.length ≤ 1000) (hT : SqT K H a xs)
    (htl : ∀ R : VK, R (.ref a) H → tl σ H R) (w : ∀ v, wipe ((wipe σ vs).set slot (some v)) vs = wipe σ vs)
    (test : ∀ (i : Nat) (x : V) (b : Bool) (y : V) (G : Hp) (R : Bool → Hp → Prop), xs[i]? = some x → ys[i]? = some (b, y) → Same H G → R b G → tt ((wipe σ vs).set slot (some x)) G R)
    (turn : ∀ (i : Nat) (x : V) (b : Bool) (y : V) (G : Hp) (R : VK), xs[i]? = some x → ys[i]? = some (b, y) → Same H G → R y G → te ((wipe σ vs).set slot (some x)) G R)
    (done : ∀ (D : Addr) (G : Hp), H D = none → Same H G → G D = some (.lst ((ys.filter (·.1)).map (·.2))) → Q (.ref D) G) : tLc (iTup K tl) (gName slot) tt te vs σ H Q := by
  refine htl _ ⟨a, rfl, ⟨xs, hT⟩, fun D nD => ?_⟩
  refine lc_tup (K := K) (a := a) (xs := xs) (fun i G => Same H G ∧ G D = some (.lst (((ys.take i).filter (·.1)).map (·.2)))) ⟨same_new nD, upd_same⟩ (fun i G _ h => tupS h.1 hT) ?_ ?_
  · rintro i x G hx ⟨sm, hD⟩
    have hi : i < xs.length := (List.getElem?_eq_some_iff.mp hx).1
    have hy : ys[i]? = some (ys[i]'(by omega)) := List.getElem?_eq_getElem (by omega)
    have et : ys.take (i + 1) = ys.take i ++ [ys[i]'(by omega)] := by
      rw [List.take_add_one, hy]
      rfl
    refine ⟨w x, ?_⟩
    generalize ys[i]'(by omega) = by_ at hy et
    obtain ⟨b, y⟩ := by_
    refine test i x b y G _ hx hy sm ?_
    cases b
    · refine iteF ⟨sm, ?_⟩
      rw [hD, et, List.filter_append]
      simp
    · refine iteT (turn i x true y G _ hx hy sm ⟨_, hD, ?_, putS sm nD, ?_⟩)
      · rw [List.length_map]
        have := List.length_filter_le (·.1) (ys.take i)
        rw [List.length_take] at this
        exact small' (by omega)
      · rw [upd_same, et, List.filter_append, List.map_append]
        rfl
  · rintro G ⟨sm, hD⟩
    refine done D G nD sm ?_
    rw [hD, List.take_of_length_le (by omega)]
theorem inV_strs (n : Str) : ∀ t : List Str, inV (.str n) (t.map V.str) = decide (n ∈ t)
  | [] => by
    symm
    simp [inV]
  | a :: r => by
    have ih := inV_strs n r
    show ((a == n) || inV (.str n) (r.map V.str)) = _
    rw [ih]
    by_cases h : a = n
    · simp [h]
    · have h2 : ¬ n = a := fun z => h z.symm
      simp [h, h2]
theorem flat_strs (t : List Str) : (t.map V.str).all flatV = true := by
  simp [flatV]
end Kn


namespace Kn
open PySem PySem.Spec PyProof.Rows L2
def cnt10 : List Nat := [1, 1, 1, 2, 3, 9, 10, 11, 12, 30]
theorem cnt10_ok : ∀ m ∈ cnt10, 1 ≤ m ∧ m ≤ 30 := by decide
abbrev nCnt : List Str := ["_law_feed", "_law_page_here", "_law_entry"]
theorem scCnt : FnScope nCnt ["_law_feed", "_law_page_here"] (defScope (topS 32)) := ⟨rfl, rfl, rfl, by decide +kernel, rfl, by decide +kernel, by decide +kernel⟩
def spCnt (K : PySem.W.Frag) : Sp := fun vs H Q _ => ∃ (f a : Addr) (ns : List Int) (c : Nat) (v : V) (g : Pg), vs = [.ref f, v] ∧ Fd f a ns H c ∧ c < 80000 ∧ PgAt K H v g ∧ g.ok ∧
  ∀ (p : Addr) (ms : List Nat) (H' : Hp), ms.length = g.es.length → (∀ m ∈ ms, 1 ≤ m ∧ m ≤ 30) → Keep f H H' → H p = none → H' p = some (.tup (ms.map fun n => V.int (n : Nat))) → Fd f a ns H' (c + g.es.length) → Q (.ref p) H'
abbrev nAc : List Str := ["_law_page_here", "_law_item", "_law_one"]
theorem scAc : FnScope nAc ["_law_page_here", "_law_item"] (defScope (topS 33)) := ⟨rfl, rfl, rfl, by decide +kernel, rfl, by decide +kernel, by decide +kernel⟩
def spAc (K : PySem.W.Frag) : Sp := fun vs H Q _ => ∃ (v x : V) (g : Pg) (d : PyData), vs = [v, x] ∧ PgAt K H v g ∧ g.ok ∧ Dp K H x d ∧ goodD d = true ∧ d.depth ≤ 60 ∧ nodesD d ≤ 900 ∧ ∀ H', Same H H' → Q (.bl (numsB g.es.length d)) H'
theorem eqv_nil (ds : List PyData) : PyData.eqv (.list ds) (.list []) = ds.isEmpty := by
  cases ds with
  | nil => rfl
  | cons d r => rfl
theorem pick_dp {K : PySem.W.Frag} {H : Hp} (b : PyData → Bool) : ∀ {xs : List V} {ds : List PyData}, DpAll K H xs ds → DpAll K H ((((ds.map b).zip xs).filter (·.1)).map (·.2)) (ds.filter b)
  | _, _, .nil => .nil
  | _, _, .cons (v := v) (vs := vs) (d := d) (ds := ds) h r => by
    have ih := pick_dp b r
    rw [List.map_cons, List.zip_cons_cons, List.filter_cons, List.filter_cons]
    cases z : b d
    · simpa using ih
    · simpa using DpAll.cons h ih
theorem good_filter (b : PyData → Bool) : ∀ {ds : List PyData}, goodDs ds = true → goodDs (ds.filter b) = true
  | [], _ => rfl
  | d :: r, h => by
    obtain ⟨h1, h2⟩ := Bool.and_eq_true_iff.mp (show (goodD d && goodDs r) = true from h)
    have ih := good_filter b h2
    rw [List.filter_cons]
    cases b d
    · exact ih
    · show (goodD d && goodDs (r.filter b)) = true
      rw [h1, ih]
      rfl
theorem depth_filter (b : PyData → Bool) : ∀ (ds : List PyData), PyData.depthAll (ds.filter b) ≤ PyData.depthAll ds
  | [] => Nat.le_refl _
  | d :: r => by
    have ih := depth_filter b r
    rw [List.filter_cons]
    show _ ≤ max d.depth (PyData.depthAll r)
    cases b d
    · exact Nat.le_trans ih (Nat.le_max_right _ _)
    · show max d.depth (PyData.depthAll (r.filter b)) ≤ _
      omega
theorem filter_all : ∀ ds : List PyData, (ds.filter fun d => !posB d).isEmpty = ds.all posB
  | [] => rfl
  | d :: r => by
    rw [List.filter_cons, List.all_cons]
    cases posB d
    · rfl
    · exact filter_all r
section
variable {P : Program} {w : World} {K : PySem.W.Frag} {mg : Str → Option Value} {base : Heap}
theorem ok_cnt {g gA : Addr} {fd fdA : FuncData} (F : Fun K "_law_counts" "_law_counts" (topS 32) g fd) (FA : Fun K "_law_any" "_law_any" (topS 24) gA fdA) (bA : Binds K fdA ["_law_feed", "_law_some"] []) (mA : mg "_law_any" = some (.ref gA))
    (GA : FnOk P w K mg base CX0 2 gA fdA ["_law_feed", "_law_some"] (spAny K)) (mt : mg "tuple" = none) : FnOk P w K mg base CX0 3 g fd ["_law_feed", "_law_page_here"] (spCnt K) := by
  refine F.ok scCnt (fun vs H Q E h => ?_) (fun cdv A outer s H vs Q E hr h => ?_)
  · obtain ⟨f, a, ns, c, v, g, rfl, _⟩ := h
    rfl
  · obtain ⟨f, a, ns, c, v, g, rfl, fd0, hc, ⟨pp, pq, ws, rfl, hp, hw, hE⟩, ok, q⟩ := h
    have lw := hE.len
    have l12 := ok.1
    refine ⟨_, pss_one (ps_ret (pe_callTy call_tuple_of (by rfl) mt boot_tuple (pa_cons (pe_lc (own := [("_law_entry", 2)]) (g := gName 2) (by rfl) scCnt.nd (pi_tup (pe_ix ix_tup (pv 1) pe_int (fun _ _ => rfl))) (blkOk_by (own := [("_law_entry", 2)]) (N := nCnt) (sc := defScope (topS 32)) (by decide +kernel))
      (fun _ _ _ _ _ => pg_name (i := 2) scCnt.nd rfl (Or.inl rfl)) (fun _ _ _ _ _ => pts_nil) (fun _ _ _ _ _ => pe_call GA hr (by rfl) mA FA.kp bA .nil pass0 (pa_cons (pv 0) (pa_cons (pe_lst (pa_cons pe_int (pa_cons pe_int (pa_cons pe_int (pa_cons pe_int (pa_cons pe_int (pa_cons pe_int (pa_cons pe_int (pa_cons pe_int (pa_cons pe_int (pa_cons pe_int pa_nil))))))))))) pa_nil)))) pa_nil))), ?_⟩
    refine ⟨.ref pp, rfl, pp, _, 0, .ref pq, rfl, rfl, hp, atI_nat (j := 0) rfl, pq, rfl, ⟨ws, hw⟩, fun D nD => ?_⟩
    have nDf := fd0.free nD
    refine lc_tup (K := K) (a := pq) (xs := ws) (fun i G => Keep f H G ∧ Fd f a ns G (c + i) ∧ ∃ ms : List Nat, G D = some (.lst (ms.map fun n => V.int (n : Nat))) ∧ ms.length = i ∧ ∀ m ∈ ms, 1 ≤ m ∧ m ≤ 30)
      ⟨keep_same (same_new nD), fd0.same (same_new nD), [], upd_same, rfl, fun m z => by cases z⟩ (fun i G _ h => tupT (ts_fd fd0 h.1) hw) ?_ ?_
    · rintro i x G hx ⟨kG, fdG, ms, eD, lm, hm⟩
      have hi : i < ws.length := (List.getElem?_eq_some_iff.mp hx).1
      refine ⟨rfl, ?_⟩
      dsimp only [tYes]
      refine iteT ?_
      refine ⟨.ref f, rfl, (show 10 ≤ sizeLine by decide), fun pl npl => ?_⟩
      refine ⟨f, a, pl, ns, c + i, cnt10.map (fun n => V.int (n : Nat)), rfl, fdG.same (same_new npl), by omega, .inl (.inl upd_same), (show 0 < 10 by decide), (show 10 ≤ 1000 by decide), fun y G7 hy k7 fd7 => ?_⟩
      obtain ⟨m, hmm, rfl⟩ := List.mem_map.mp hy
      have sp := same_new (o := .lst (cnt10.map fun n => V.int (n : Nat))) npl
      have fdp := fdG.same sp
      have eDp := sp _ _ eD
      have eD7 := k7 _ _ (fd_ne fdp eDp) eDp
      have kk : Keep f H G7 := (kG.trans (keep_same sp)).trans k7
      refine ⟨_, eD7, ?_, fun b o nb hb => ?_, fd7.own nDf.1 nDf.2, ms ++ [m], ?_, by simp [lm], fun z hz => ?_⟩
      · rw [List.length_map]
        exact small' (by omega)
      · rw [upd_ne (ne_of_none hb nD)]
        exact kk b o nb hb
      · rw [upd_same, List.map_append]
        rfl
      · rcases List.mem_append.mp hz with hz | hz
        · exact hm z hz
        · rw [List.mem_singleton.mp hz]
          exact cnt10_ok m hmm
    · rintro G ⟨kG, fdG, ms, eD, lm, hm⟩
      refine ⟨D, _, rfl, .inl ⟨.inl (.inl eD), fun t nt => ?_⟩⟩
      have n0 : H t = none := ne_free fdG kG nt
      rw [lw] at lm fdG
      exact q t ms _ lm hm (kG.trans (keep_same (same_new nt))) n0 upd_same (fdG.same (same_new nt))
theorem ok_ac {g : Addr} {fd : FuncData} (F : Fun K "_law_are_counts" "_law_are_counts" (topS 33) g fd) (ms : mg "isinstance" = none) (mt : mg "tuple" = none) (ml : mg "len" = none) (mi : mg "int" = none) (mb : mg "bool" = none) :
    FnOk P w K mg base CX0 1 g fd ["_law_page_here", "_law_item"] (spAc K) := by
  refine F.ok scAc (fun vs H Q E h => ?_) (fun cdv A outer s H vs Q E hr h => ?_)
  · obtain ⟨v, x, g, d, rfl, _⟩ := h
    rfl
  · obtain ⟨v, x, g, d, rfl, ⟨pp, pq, ws, rfl, hp, hw, hE⟩, ok, hd, gd, dd, nn, q⟩ := h
    have lw := hE.len
    have l12 := ok.1
    have ci : ∀ {X : Cx}, X.K = K → CallR X (.builtin "isinstance") (rIsi K) := fun e => e ▸ call_isi
    refine ⟨_, pss_cons (ps_if (PW.pt (pw_or (pt_not (pt_val (pe_callB call_isi (by rfl) ms boot_isinstance (pa_cons (pv 1) (pa_cons (pe_bltn (v := .ty "tuple") (by rfl) mt (by decide +kernel) rfl) pa_nil)))))
        (pw_or1 (pt_cmpR op_ne (pe_callB call_len_seq (by rfl) ml PySem.boot_len (pa_cons (pv 1) pa_nil)) (pe_callB call_len_seq (by rfl) ml PySem.boot_len (pa_cons (pe_ix ix_tup (pv 0) pe_int (fun _ _ => rfl)) pa_nil)) (nomark _))))) (pss_one (ps_ret pe_bl)) pss_nil)
      (pss_one (ps_ret (pe_cmpR (op_eqD hr.units) (pe_lc (own := [("_law_one", 2)]) (g := gName 2) (by rfl) scAc.nd (pi_tup (pv 1)) (blkOk_by (own := [("_law_one", 2)]) (N := nAc) (sc := defScope (topS 33)) (by decide +kernel))
        (fun _ _ _ _ _ => pg_name (i := 2) scAc.nd rfl (Or.inl rfl))
        (fun _ _ _ _ _ => pts_one (PW.pt (pw_or (pt_not (pt_val (pe_callB (ci rfl) (by rfl) ms boot_isinstance (pa_cons (pv 2) (pa_cons (pe_bltn (v := .ty "int") (by rfl) mi (by decide +kernel) rfl) pa_nil)))))
          (pw_or (pt_val (pe_callB (ci rfl) (by rfl) ms boot_isinstance (pa_cons (pv 2) (pa_cons (pe_bltn (v := .ty "bool") (by rfl) mb (by decide +kernel) rfl) pa_nil))))
            (pw_or1 (pt_cmpR op_lt (pv 2) pe_int (nomark _)))))))
        (fun _ _ _ _ _ => pv 2)) (pe_lst pa_nil) (nomark _)))), ?_⟩
    refine ⟨x, rfl, x, .ty "tuple", _, _, _, rfl, .ty "tuple", ty_of hd, kit_tup, _, rfl, ?_⟩
    cases hd with
    | tup ht hds =>
      rename_i p xs ds
      have lx : xs.length = ds.length := dsLen hds
      have lds : ds.length ≤ 900 := Nat.le_trans (nodes_len ds) (Nat.le_trans (Nat.le_add_left _ 1) nn)
      refine iteF ⟨.ref p, rfl, p, xs, rfl, .inr ht, .ref pp, rfl, pp, _, 0, .ref pq, rfl, rfl, hp, atI_nat (j := 0) rfl, pq, ws, rfl, .inr hw, rfl, _, rfl, ?_⟩
      by_cases z : ds.length = g.es.length
      · rw [decide_eq_true (show V.int (xs.length : Nat) = V.int (ws.length : Nat) by rw [lx, lw, z])]
        refine iteF ?_
        dsimp only [tRet, tCB, tCons, tNext, tSeq]
        refine lc_pickT (a := p) (xs := xs) ((ds.map fun d => !posB d).zip xs) (by simp; omega) (by omega) ht (fun R k => ⟨_, rfl, k⟩) (fun v => rfl) ?_ ?_ ?_
        · intro i x b y G R hx hy sm k
          obtain ⟨di, hdi, dp⟩ := dsAt hds i x hx
          have hb : b = !posB di := by
            have e := List.getElem?_zip_eq_some.mp hy
            have e1 := e.1
            rw [List.getElem?_map, hdi] at e1
            exact (Option.some.inj e1).symm
          subst hb
          have dq := dKeep sm dp
          refine ⟨x, rfl, x, .ty "int", _, _, _, rfl, .ty "int", ty_of dq, kit_int, _, rfl, ?_⟩
          cases dq with
          | int n =>
            refine iteF ⟨_, rfl, _, .ty "bool", _, _, _, rfl, .ty "bool", ty_of (.int n), kit_bool, _, rfl, iteF ?_⟩
            refine ⟨_, rfl, n, 1, rfl, rfl, _, rfl, ?_⟩
            have e : decide (n < 1) = !posB (.int n) := by
              show decide (n < 1) = !decide (1 ≤ n)
              by_cases h : 1 ≤ n
              · rw [decide_eq_true h, decide_eq_false (by omega)]; rfl
              · rw [decide_eq_false h, decide_eq_true (by omega)]; rfl
            rw [e]
            exact k
          | bl b => exact iteF ⟨_, rfl, _, .ty "bool", _, _, _, rfl, .ty "bool", ty_of (.bl b), kit_bool, _, rfl, iteT k⟩
          | non => exact iteT k
          | str n => exact iteT k
          | lst a b => exact iteT k
          | tup a b => exact iteT k
        · intro i x b y G R hx hy sm k
          have e := (List.getElem?_zip_eq_some.mp hy).2
          rw [hx] at e
          obtain rfl := Option.some.inj e
          exact ⟨_, rfl, k⟩
        · intro D G nD sm hD
          refine ⟨Nat.zero_le _, fun l2 n2 => ?_⟩
          have s2 := same_new (o := .lst []) n2
          have gds : goodDs ds = true := gd
          have dds : PyData.depthAll ds + 1 ≤ 60 := dd
          have hp := pick_dp (fun d => !posB d) (dsKeep s2 (dsKeep sm hds))
          refine ⟨.list (ds.filter fun d => !posB d), .list [], .lst (.inl (.inl (s2 _ _ hD))) hp, .lst (.inl (.inl upd_same)) .nil, good_shaped (good_filter _ gds) ?_, rfl, ?_⟩
          · show PyData.depthAll _ + 1 ≤ 64
            have := depth_filter (fun d => !posB d) ds
            omega
          · have e : numsB g.es.length (.tuple ds) = PyData.eqv (.list (ds.filter fun d => !posB d)) (.list []) := by
              show (decide (ds.length = g.es.length) && ds.all posB) = _
              rw [decide_eq_true z, Bool.true_and, eqv_nil, filter_all]
            rw [← e]
            exact q _ (sm.trans s2)
      · rw [decide_eq_false (show ¬ V.int (xs.length : Nat) = V.int (ws.length : Nat) from fun y => z (by have := V.int.inj y; omega))]
        have e : numsB g.es.length (.tuple ds) = false := by
          show (decide (ds.length = g.es.length) && ds.all posB) = _
          rw [decide_eq_false z, Bool.false_and]
        rw [e] at q
        exact iteT (q H (Same.refl H))
    | non => exact iteT (q H (Same.refl H))
    | bl b => exact iteT (q H (Same.refl H))
    | int n => exact iteT (q H (Same.refl H))
    | str n => exact iteT (q H (Same.refl H))
    | lst a b => exact iteT (q H (Same.refl H))
end
end Kn


namespace Kn
open PySem PySem.Spec PyProof.Rows L2 RZ
abbrev nLs : List Str := ["_law_page_here", "_law_counts_here", "_law_found", "_law_entry", "_law_many", "_law_i"]
theorem scLs : FnScope nLs ["_law_page_here", "_law_counts_here"] (defScope (topS 34)) := ⟨rfl, rfl, rfl, by decide +kernel, rfl, by decide +kernel, by decide +kernel⟩
def spLs (K : PySem.W.Frag) : Sp := fun vs H Q _ => ∃ (v x : V) (g : Pg) (ms : List Nat), vs = [v, x] ∧ PgAt K H v g ∧ g.ok ∧ (∃ px, x = .ref px ∧ SqT K H px (ms.map fun n => V.int (n : Nat))) ∧ ms.length = g.es.length ∧ (∀ m ∈ ms, m ≤ 1000) ∧
  ∀ (p : Addr) (ws : List V) (H' : Hp), Same H H' → H p = none → H' p = some (.tup ws) → StAt K H' ws (allSt (g.es.map (·.name)) ms) → Q (.ref p) H'
theorem allSt_len : ∀ (ks : List Str) (ms : List Nat), (∀ m ∈ ms, m ≤ 1000) → (allSt ks ms).length ≤ 1000 * ms.length
  | [], _, _ => Nat.zero_le _
  | _ :: _, [], _ => Nat.zero_le _
  | k :: ks, m :: ms, h => by
    have ih := allSt_len ks ms fun z hz => h z (List.mem_cons_of_mem _ hz)
    have h1 := h m (List.mem_cons_self ..)
    have e : allSt (k :: ks) (m :: ms) = ofKind k m ++ allSt ks ms := rfl
    rw [e, List.length_append, List.length_cons]
    unfold ofKind
    rw [List.length_map, List.length_range]
    omega
section
variable {P : Program} {w : World} {K : PySem.W.Frag} {mg : Str → Option Value} {base : Heap}
theorem ok_ls {g : Addr} {fd : FuncData} (F : Fun K "_law_stores" "_law_stores" (topS 34) g fd) (mz : mg "zip" = none) (mr : mg "range" = none) (mt : mg "tuple" = none) : FnOk P w K mg base CX0 1 g fd ["_law_page_here", "_law_counts_here"] (spLs K) := by
  refine F.ok scLs (fun vs H Q E h => ?_) (fun cdv A outer s H vs Q E hr h => ?_)
  · obtain ⟨v, x, g, ms, rfl, _⟩ := h
    rfl
  · obtain ⟨v, x, g, ms, rfl, hP, ok, ⟨px, rfl, hx⟩, lm, bm, q⟩ := h
    obtain ⟨pp, pq, ws0, rfl, hp, hw, hE⟩ := id hP
    have lw := hE.len
    have l12 := ok.1
    refine ⟨_, pss_cons (ps_set (i := 2) scLs.nd rfl (.inl rfl) (pe_lst pa_nil))
      (pss_cons (ps_for PassesOwn.never rfl (pi_zipA (by rfl) mz (pa_cons (pe_ix ix_tup (pv 0) pe_int (fun _ _ => rfl)) (pa_cons (pv 1) pa_nil))) (pg_tup (by rfl) (pgs_cons (pg_name (i := 3) scLs.nd rfl (.inr rfl)) (pgs_cons (pg_name (i := 4) scLs.nd rfl (.inl rfl)) pgs_nil)))
        (pss_one (ps_set (i := 2) scLs.nd rfl (.inl rfl) (pe_op op_cat (pv 2) (pe_lc (own := [("_law_i", 5)]) (g := gName 5) (by rfl) scLs.nd (pi_range1 (by rfl) mr (pa_cons (pv 4) pa_nil)) (blkOk_by (own := [("_law_i", 5)]) (N := nLs) (sc := defScope (topS 34)) (by decide +kernel))
          (fun _ _ _ _ _ => pg_name (i := 5) scLs.nd rfl (Or.inl rfl)) (fun _ _ _ _ _ => pts_nil) (fun _ _ _ _ _ => pe_tup (pa_cons (pe_ix (r := rIxT K) ix_tup (pv 3) pe_int (fun _ _ => rfl)) (pa_cons (pv 5) pa_nil))))))))
      (pss_one (ps_ret (pe_callTy call_tuple_of (by rfl) mt boot_tuple (pa_cons (pv 2) pa_nil))))), ?_⟩
    refine ⟨Nat.zero_le _, fun L0 n0 => ?_⟩
    have s0 := same_new (o := .lst []) n0
    refine ⟨.ref pp, rfl, pp, _, 0, .ref pq, rfl, rfl, tupS s0 hp, atI_nat (j := 0) rfl, .ref px, rfl, pq, px, ws0, _, rfl, .inr ⟨tupS s0 hw, tupS s0 hx, ?_⟩⟩
    refine for_zipT (K := K) (a := pq) (b := px) (xs := ws0) (ys := ms.map fun n => V.int (n : Nat)) (by simp; omega)
      (fun i σ G => ∃ (y3 y4 : Option V) (L : Addr) (ws : List V), σ = [some (.ref pp), some (.ref px), some (.ref L), y3, y4, none] ∧ Same H G ∧ H L = none ∧ G L = some (.lst ws) ∧ StAt K G ws (allSt ((g.es.map (fun e : Ent => e.name)).take i) (ms.take i)))
      ⟨none, none, L0, [], rfl, s0, n0, upd_same, trivial⟩ (fun i σ G ⟨_, _, _, _, _, s, _⟩ => ⟨tupS s hw, tupS s hx⟩) ?_ ?_
    · rintro i u y T σ G hu hy ⟨y3, y4, L, ws, rfl, sG, nL, eL, hS⟩ nT
      obtain ⟨e, he, hv⟩ := hE.get hu
      obtain ⟨m, hm, rfl⟩ := map_get hy
      have hn : (g.es.map (fun e : Ent => e.name))[i]? = some e.name := by rw [List.getElem?_map, he]; rfl
      have bmm := bm m (List.mem_of_getElem? hm)
      have sT := same_new (o := .tup [u, .int (m : Nat)]) nT
      refine ⟨T, _, rfl, .inl (.inl upd_same), rfl, _, _, rfl, _, _, rfl, rfl, ?_⟩
      have sm1 : Same H (upd G T (.tup [u, .int (m : Nat)])) := putS sG (sG.free nT)
      have eL1 : (upd G T (.tup [u, .int (m : Nat)])) L = some (.lst ws) := sT _ _ eL
      have hS1 := hS.ts (ts_same sT)
      generalize upd G T (.tup [u, .int (m : Nat)]) = G1 at sm1 eL1 hS1 ⊢
      refine ⟨.ref L, rfl, ?_⟩
      refine lc_ofK (K := K) e.name m bmm ?_ ?_ ?_ ?_
      · exact fun R h => ⟨_, rfl, h⟩
      · exact fun v => rfl
      · refine fun j G2 R hj s2 h => ?_
        obtain ⟨p1, r1, rfl, hp1, hr1⟩ := hv.same (sm1.trans s2)
        exact ⟨.ref p1, rfl, p1, _, 0, .str e.name, rfl, rfl, hp1, atI_nat (j := 0) rfl, _, rfl, (show 2 ≤ sizeLine by decide), fun t nt => h t nt⟩
      · refine fun D vs G2 nD s2 hD hV => ?_
        have eL2 := s2 _ _ eL1
        have hS2 := hS1.ts (ts_same s2)
        have ll := hS2.len
        have lv := hV.len
        have l1 : (allSt ((g.es.map (fun e : Ent => e.name)).take i) (ms.take i)).length ≤ 1000 * (ms.take i).length := allSt_len _ _ fun z hz => bm z (List.mem_of_mem_take hz)
        have l2 : (ms.take i).length ≤ ms.length := by rw [List.length_take]; omega
        have l3 : (ofKind e.name m).length = m := by unfold ofKind; rw [List.length_map, List.length_range]
        refine ⟨L, D, ws, vs, rfl, rfl, eL2, hD, Nat.le_trans (show ws.length + vs.length ≤ 14000 by omega) (by decide), fun t nt => ?_⟩
        refine ⟨_, _, t, ws ++ vs, rfl, (sm1.trans s2).trans (same_new nt), (sm1.trans s2).free nt, upd_same, ?_⟩
        rw [allSt_take hn hm]
        exact (hS2.app hV).ts (ts_same (same_new nt))
    · rintro σ G ⟨y3, y4, L, ws, rfl, sG, nL, eL, hS⟩
      rw [List.take_of_length_le (by rw [List.length_map]; omega), List.take_of_length_le (by omega)] at hS
      refine ⟨.ref L, rfl, L, _, rfl, .inl ⟨.inl (.inl eL), fun t nt => ?_⟩⟩
      exact q t ws _ (putS sG (sG.free nt)) (sG.free nt) upd_same (hS.ts (ts_same (same_new nt)))
end
end Kn


namespace Kn
open PySem PySem.Spec PyProof.Rows L2
/-! ### f(x = e): one parameter, given by its name -/
section
variable {X : Cx} {k : Nat} {f : Addr} {fd : FuncData} {y x : Str} {sp : Sp} {p pos kpos : Pos} {e : Expr} {te : TE}
def tKw (sp : Sp) (te : TE) : TE := fun σ H Q => te σ H fun v G => sp [v] G Q E0
theorem pe_kw1 (F : FnOk X.prog X.w X.K X.mg X.base CX0 k f fd [y] sp) (hr : Room k X.A) (hg : Gl X x) (hm : X.mg x = some (.ref f)) (hk : PySem.W.keepIn X.K (.ref f) = true)
    (hb : ∀ (s : Shared) (u : Value), BindsTo s fd ⟨[], [(y, u)]⟩ [(y, u)]) (he : PE X e te) (hdb : (x == ("__debug__" : Str)) = false := by decide)
    (h1 : (backToKw pos (keywordEach [⟨some y, e, kpos⟩] X.env)).all (·.1.isSome) = true := by rfl) (h2 : (backToKw pos (keywordEach [⟨some y, e, kpos⟩] X.env)).filterMap (·.1) = [y] := by rfl)
    (h3 : ((backTo pos (starEach [] X.env)).any (·.1) || (backToKw pos (keywordEach [⟨some y, e, kpos⟩] X.env)).any (·.1.isNone)) = false := by rfl) :
    PE X (.Call (.Name x p) [] [⟨some y, e, kpos⟩] pos) (tKw sp te) := by
  have hkw : PK X [⟨some y, e, kpos⟩] (tCons te tNil) := pk_cons he pk_nil
  refine ⟨fun pins s σ H Q I told => wpAny_Call_Name_kw (ld_glob I hg hm ?_ hdb)⟩
  refine PySem.W.callWith_KW0 (h₀ := X.base) I.ok.mod.kin hk h1 (thn (hkw.run pos pins s σ H (fun vs G => sp vs G Q E0) I told) ?_) h3
  · rintro us s1 ⟨vs, H1, I1, rv, q⟩
    refine ⟨I1.kIn, ?_⟩
    rw [h2]
    have n1 := F.len _ _ _ _ q
    obtain ⟨v, rfl⟩ : ∃ v, vs = [v] := by
      match vs, n1 with
      | [v], _ => exact ⟨v, rfl⟩
    obtain ⟨u, rfl, ru⟩ := vals1 rv
    refine wpAny_call (codeAny_mono (F.run X.A X.stack s1 H1 ⟨[], [(y, u)]⟩ [u] [v] Q E0 hr I1.env0 (hb s1 u) rv q) ?_)
    intro r s2 out
    cases r with
    | error _ => exact False.elim out
    | ok fl =>
      cases fl with
      | ret u => exact I1.after out
      | next => exact False.elim out
      | brk => exact False.elim out
      | cont => exact False.elim out
end
/-! ### f(y1 = e1, y2 = e2), the other way about than the def names them; nothing is raised -/
section
theorem passF {X : Cx} : Passes (L2.CX X.prog X.w) X E0 := by
  rintro pins σ H s e s' I ⟨_, _, _, _, _, _, _, _, _, _, _, _, z⟩
  exact z.elim
variable {X : Cx} {k : Nat} {f : Addr} {fd : FuncData} {y1 y2 x : Str} {sp : Sp} {p pos k1 k2 : Pos} {e1 e2 : Expr} {t1 t2 : TE}
def tKw2 (sp : Sp) (t1 t2 : TE) : TE := fun σ H Q => t1 σ H fun u G => t2 σ G fun v G' => sp [v, u] G' Q E0
theorem pe_kw2 (F : FnOk X.prog X.w X.K X.mg X.base (L2.CX X.prog X.w) k f fd [y2, y1] sp) (hr : Room k X.A) (hg : Gl X x) (hm : X.mg x = some (.ref f)) (hk : PySem.W.keepIn X.K (.ref f) = true)
    (hb : ∀ (s : Shared) (u v : Value), BindsTo s fd ⟨[], [(y1, u), (y2, v)]⟩ [(y2, v), (y1, u)]) (he1 : PE X e1 t1) (he2 : PE X e2 t2) (hdb : (x == ("__debug__" : Str)) = false := by decide)
    (h1 : (backToKw pos (keywordEach [⟨some y1, e1, k1⟩, ⟨some y2, e2, k2⟩] X.env)).all (·.1.isSome) = true := by rfl) (h2 : (backToKw pos (keywordEach [⟨some y1, e1, k1⟩, ⟨some y2, e2, k2⟩] X.env)).filterMap (·.1) = [y1, y2] := by rfl)
    (h3 : ((backTo pos (starEach [] X.env)).any (·.1) || (backToKw pos (keywordEach [⟨some y1, e1, k1⟩, ⟨some y2, e2, k2⟩] X.env)).any (·.1.isNone)) = false := by rfl) :
    PE X (.Call (.Name x p) [] [⟨some y1, e1, k1⟩, ⟨some y2, e2, k2⟩] pos) (tKw2 sp t1 t2) := by
  have hkw : PK X [⟨some y1, e1, k1⟩, ⟨some y2, e2, k2⟩] (tCons t1 (tCons t2 tNil)) := pk_cons he1 (pk_cons he2 pk_nil)
  refine ⟨fun pins s σ H Q I told => wpAny_Call_Name_kw (ld_glob I hg hm ?_ hdb)⟩
  refine PySem.W.callWith_KW0 (h₀ := X.base) I.ok.mod.kin hk h1 (thn (hkw.run pos pins s σ H (fun vs G => ∃ u v, vs = [u, v] ∧ sp [v, u] G Q E0) I ?_) ?_) h3
  · exact (told : t1 σ H fun u G => t2 σ G fun v G' => sp [v, u] G' Q E0) |> fun z => by
      have mono : (tCons t1 (tCons t2 tNil)) σ H (fun vs G => ∃ u v, vs = [u, v] ∧ sp [v, u] G Q E0) = (t1 σ H fun u G => t2 σ G fun v G' => ∃ u' v', [u, v] = [u', v'] ∧ sp [v', u'] G' Q E0) := rfl
      rw [mono]
      have e : (fun (u : V) (G : Hp) => t2 σ G fun v G' => ∃ u' v', [u, v] = [u', v'] ∧ sp [v', u'] G' Q E0) = fun u G => t2 σ G fun v G' => sp [v, u] G' Q E0 := by
        funext u G
        have e2 : (fun (v : V) (G' : Hp) => ∃ u' v', [u, v] = [u', v'] ∧ sp [v', u'] G' Q E0) = fun v G' => sp [v, u] G' Q E0 := by
          funext v G'
          exact propext ⟨fun ⟨u', v', h, q⟩ => by cases h; exact q, fun q => ⟨u, v, rfl, q⟩⟩
        rw [e2]
      rw [e]
      exact z
  · rintro us s1 ⟨vs, H1, I1, rv, u0, v0, rfl, q⟩
    refine ⟨I1.kIn, ?_⟩
    rw [h2]
    cases rv with
    | cons r1 rr =>
      cases rr with
      | cons r2 rr =>
        cases rr
        refine wpAny_call (codeAny_mono (F.run X.A X.stack s1 H1 ⟨[], [(y1, _), (y2, _)]⟩ [_, _] [v0, u0] Q E0 hr I1.env0 (hb s1 _ _) (.cons r2 (.cons r1 .nil)) q) ?_)
        intro r s2 out
        cases r with
        | error e => exact passF pins σ H1 s1 e s2 I1 out
        | ok fl =>
          cases fl with
          | ret u => exact I1.after out
          | next => exact False.elim out
          | brk => exact False.elim out
          | cont => exact False.elim out
end
end Kn


namespace Kn
open PySem PySem.Spec PyProof.Rows L2 LamX
abbrev nRt : List Str := ["_law_page_here", "_law_item", "_law_kept"]
theorem scRt : FnScope nRt ["_law_page_here", "_law_item"] (defScope (topS 35)) := ⟨rfl, rfl, rfl, by decide +kernel, rfl, by decide +kernel, by decide +kernel⟩
abbrev qRt : Str := ("_law_is_right" : Str) ++ ".<locals>." ++ "<lambda>"
abbrev TT1 (T0 : Addr) : List (Addr × Str) := [(T0, qRt)]
def dUse (w : Str) : PyData := .tuple [.str "no", .str "use", .str w, .int (-1)]
abbrev useRow (w : Str) : HO := .tup [.str "no", .str "use", .str w, .int (-1)]
theorem dp_use {K : PySem.W.Frag} {H : Hp} {p : Addr} {w : Str} (h : H p = some (useRow w)) : Dp K H (.ref p) (dUse w) := .tup (.inl (.inl h)) (.cons (.str _) (.cons (.str _) (.cons (.str _) (.cons (.int _) .nil))))
def rShowB : List V → Hp → VK → Prop := fun xs H Q => ∃ b : Bool, xs = [.bl b] ∧ Q (.str (if b = true then ("True" : Str) else "False")) H
theorem call_showB {X : Cx} : CallR X (.builtin "repr") rShowB := by
  intro pins s σ H xs us Q I r h
  obtain ⟨b, rfl, q⟩ := h
  obtain ⟨u, rfl, rfl⟩ := vals1 r
  exact PySem.P.repr_of_bool ⟨.str _, H, I.tok _, ⟨_, rfl⟩, q⟩
/-- a value that the law hands to the program -/
structure Fine (d : PyData) : Prop where
  g : goodD d = true
  dp : d.depth ≤ 10
  n : nodesD d ≤ 900
theorem sh_fine {d : PyData} (h : Fine d) : Sh 10 72000 d := by
  obtain ⟨a, b, c⟩ := good_shown d h.g
  exact ⟨a, b, h.dp, by have := h.n; omega⟩
theorem sh_kept {g : Pg} {d : PyData} (ok : g.ok) (h : Fine d) : Sh 20 16777216 (.list [dPg g, d]) := by
  refine (sh_list (k := 10) (B := 100000) (n := 2) ?_ (by simp)).mono (by decide) (by decide)
  intro x hx
  simp only [List.mem_cons, List.not_mem_nil, or_false] at hx
  rcases hx with rfl | rfl
  · exact (sh_pg ok).mono (by decide) (by decide)
  · exact (sh_fine h).mono (by decide) (by decide)
theorem numsB_inv {n : Nat} {d : PyData} (h : numsB n d = true) : ∃ ms : List Nat, d = numD ms ∧ ms.length = n ∧ ∀ m ∈ ms, 1 ≤ m := by
  cases d with
  | tuple ds =>
    obtain ⟨h1, h2⟩ := Bool.and_eq_true_iff.mp (show (decide (ds.length = n) && ds.all posB) = true from h)
    have h1 := of_decide_eq_true h1
    have all : ∀ es : List PyData, es.all posB = true → ∃ ms : List Nat, es = ms.map (fun n => PyData.int (n : Nat)) ∧ ∀ m ∈ ms, 1 ≤ m := by
      intro es
      induction es with
      | nil => exact fun _ => ⟨[], rfl, fun m z => by cases z⟩
      | cons e r ih =>
        intro z
        obtain ⟨z1, z2⟩ := Bool.and_eq_true_iff.mp (show (posB e && r.all posB) = true from z)
        obtain ⟨ms, rfl, hm⟩ := ih z2
        cases e with
        | int i =>
          have z1 : 1 ≤ i := of_decide_eq_true z1
          obtain ⟨m, rfl⟩ := Int.eq_ofNat_of_zero_le (show 0 ≤ i by omega)
          refine ⟨m :: ms, rfl, fun k hk => ?_⟩
          rcases List.mem_cons.mp hk with rfl | hk
          · omega
          · exact hm k hk
        | _ => cases z1
    obtain ⟨ms, rfl, hm⟩ := all ds h2
    exact ⟨ms, rfl, by rw [← h1, List.length_map], hm⟩
  | _ => cases h
theorem sum_nat : ∀ ms : List Nat, (ms.map fun n => ((n : Nat) : Int)).sum = ((ms.sum : Nat) : Int)
  | [] => rfl
  | m :: r => by
    rw [List.map_cons, List.sum_cons, List.sum_cons, sum_nat r, Int.natCast_add]
theorem mem_sum : ∀ {ms : List Nat} {m : Nat}, m ∈ ms → m ≤ ms.sum
  | a :: r, m, h => by
    rw [List.sum_cons]
    rcases List.mem_cons.mp h with rfl | h
    · omega
    · have := mem_sum h
      omega
theorem allSt_sum : ∀ (ks : List Str) (ms : List Nat), (allSt ks ms).length ≤ ms.sum
  | [], _ => Nat.zero_le _
  | _ :: _, [] => Nat.zero_le _
  | k :: ks, m :: ms => by
    have ih := allSt_sum ks ms
    have e : allSt (k :: ks) (m :: ms) = ofKind k m ++ allSt ks ms := rfl
    rw [e, List.length_append, List.sum_cons]
    unfold ofKind
    rw [List.length_map, List.length_range]
    omega
theorem allSt_mem : ∀ {ks : List Str} {ms : List Nat} {s : Str × Nat}, s ∈ allSt ks ms → s.1 ∈ ks ∧ ∃ m ∈ ms, s.2 < m
  | [], _, _, h => by cases h
  | _ :: _, [], _, h => by cases h
  | k :: ks, m :: ms, s, h => by
    have e : allSt (k :: ks) (m :: ms) = ofKind k m ++ allSt ks ms := rfl
    rw [e] at h
    rcases List.mem_append.mp h with h | h
    · obtain ⟨i, hi, rfl⟩ := List.mem_map.mp h
      exact ⟨List.mem_cons_self .., m, List.mem_cons_self .., List.mem_range.mp hi⟩
    · obtain ⟨a, m', b, c⟩ := allSt_mem h
      exact ⟨List.mem_cons_of_mem _ a, m', List.mem_cons_of_mem _ b, c⟩
theorem sh_stores {ks : List Str} {ms : List Nat} (hk : ∀ k ∈ ks, Fit 8 k) (hm : ms.sum ≤ 200) : Sh 20 16777216 (.tuple ((allSt ks ms).map dSt)) := by
  refine (sh_tup (k := 1) (B := 200) (n := 200) ?_ (by rw [List.length_map]; exact Nat.le_trans (allSt_sum ks ms) hm)).mono (by decide) (by decide)
  intro d hd
  obtain ⟨s, hs, rfl⟩ := List.mem_map.mp hd
  obtain ⟨h1, m, h2, h3⟩ := allSt_mem hs
  have := mem_sum h2
  refine (sh_tup (k := 0) (B := 82) (n := 2) ?_ (by simp)).mono (by decide) (by decide)
  intro x hx
  simp only [List.mem_cons, List.not_mem_nil, or_false] at hx
  rcases hx with rfl | rfl
  · exact sh_str (hk _ h1)
  · refine (sh_int (i := (s.2 : Nat)) ?_).mono (by decide) (by decide)
    show s.2 < 10 ^ 60
    exact Nat.lt_of_lt_of_le (show s.2 < 200 by omega) (by decide)
def spRt (K : PySem.W.Frag) (T : List (Addr × Str)) : Sp := fun vs H Q _ => ∃ (v x : V) (g : Pg) (d : PyData), vs = [v, x] ∧ PgAt K H v g ∧ g.ok ∧ (g.es.map (·.name)).Nodup ∧ Dp K H x d ∧ Fine d ∧ Tabs T H ∧
  ∀ H', ExtN H H' → Tabs T H' → Q (.bl true) H'
section
variable {P : Program} {w : World} {K : PySem.W.Frag} {mg : Str → Option Value} {base : Heap}
theorem kept_read {v x : V} {g : Pg} {d : PyData} {σ : L2.St} {G : Hp} {R : VK} (h0 : σ[0]? = some (some v)) (h1 : σ[1]? = some (some x)) (hP : PgAt K G v g) (ok : g.ok) (hd : Dp K G x d) (fine : Fine d) (r : ∀ G', Same G G' → R (.str (PyData.list [dPg g, d]).shown) G') :
    tCB (rShow K) (tCons (tLst (tCons (tVar 0) (tCons (tVar 1) tNil))) tNil) σ G R := by
  have sh := sh_kept ok fine
  refine ⟨v, h0, x, h1, (show 2 ≤ sizeLine by decide), fun L nL => ?_⟩
  have sn := same_new (o := .lst [v, x]) nL
  exact ⟨L, .list [dPg g, d], rfl, .lst (.inl (.inl upd_same)) (.cons (hP.same sn).dp (.cons (dKeep sn hd) .nil)), sh.ok, sh.nd, sh.dp, Nat.le_trans sh.ln size16, r _ sn⟩
theorem told_no {T : List (Addr × Str)} {D : Addr} {v x : V} {g : Pg} {d : PyData} {H : Hp} {σ : L2.St} {Q : VK} (h0 : σ[0]? = some (some v)) (h1 : σ[1]? = some (some x)) (pg : PgAt K H v g) (ok : g.ok) (nd : (g.es.map (·.name)).Nodup)
    (hd : Dp K H x d) (no : numsB g.es.length d = false) (tb : Tabs T H) (next : ∀ (p : Addr) (H2 : Hp), ExtN H H2 → Tabs T H2 → H2 p = some (useRow "numbers") → Q (.ref p) H2) :
    tLam T (TTsaid K D) (fun E => tCall (spStores K D) [] E (tCons (tVar 0) (tCons (tVar 1) tNil))) σ H Q := by
  refine ⟨tb, fun H1 e1 t1 => ?_⟩
  refine ⟨v, h0, x, h1, v, x, g, d, rfl, pg.ts (ext_ts e1), ok, nd, dpE e1 hd, .inr ⟨no, fun dd H0 s0 nd => ⟨rfl, dd, .str "numbers", .int (-1), rfl, upd_same, fun p H2 s2 np ep => ?_⟩⟩⟩
  have s3 := (s0.trans (same_new (o := .xd [("at", .int (-1)), ("word", .str "numbers")]) nd)).trans s2
  exact next p H2 (e1.trans (ext_same s3)) (t1.ext s3) ep
theorem ok_rt {g c T0 D CL gI gR gS gU gA gC gL gO : Addr} {fd fI fR fS fU fA fC fL fO : FuncData} (F : FunC K "_law_is_right" (topS 35) g fd c) (TB : TabB base mg c T0)
    (EM : ErrM K mg D gI fI) (mL : mg "LetterError" = some (.ref CL)) (ex : PySem.W.exmOne K (.ref D) (.ref CL) = some true)
    (R : Def K mg "_law_refusal" 29 ["_law_error"] gR fR) (GR : Handed P w K mg base 1 gR fR ["_law_error"] (spRef K D))
    (S : Def K mg "_law_said" 30 ["_law_ask"] gS fS)
    (U : Def K mg "_law_use" 31 ["_law_word"] gU fU) (OU : FnOk P w K mg base CX0 1 gU fU ["_law_word"] spUse)
    (A1 : Def K mg "are_numbers" 16 ["web", "thing"] gA fA) (O1 : FnOk P w K mg base CX0 3 gA fA ["web", "thing"] (spAre K))
    (A2 : Def K mg "_law_are_counts" 33 ["_law_page_here", "_law_item"] gC fC) (O2 : FnOk P w K mg base CX0 1 gC fC ["_law_page_here", "_law_item"] (spAc K))
    (A3 : Def K mg "_law_stores" 34 ["_law_page_here", "_law_counts_here"] gL fL) (O3 : FnOk P w K mg base CX0 1 gL fL ["_law_page_here", "_law_counts_here"] (spLs K))
    (A4 : Def K mg "stores_of" 20 ["web", "numbers"] gO fO) (O4 : FnOk P w K mg base (L2.CX P w) 5 gO fO ["web", "numbers"] (spStores K D)) (mp : mg "repr" = none) (ms : mg "sum" = none) :
    Vow P w K mg base 8 g fd ["_law_page_here", "_law_item"] (spRt K (TT1 T0)) := by
  refine Vow.bodyC F scRt (fun vs H Q E h => ?_) (fun A fr s H vs Q E hq hr h => ?_)
  · obtain ⟨v, x, g, d, rfl, _⟩ := h
    rfl
  · obtain ⟨v, x, pg, d, rfl, hP, ok, nd, hd, fine, tb, q⟩ := h
    obtain ⟨oc, od, kV, doc, pm, an, cdv, ct, osl, rfl, look, cdOk⟩ := S.F.ex
    have hr1 : Room 1 _ := hr.mono (by decide)
    have hr2 : Room 2 _ := hr.mono (by decide)
    have hr3 : Room 3 _ := hr.mono (by decide)
    have hr4 : Room 4 _ := hr.mono (by decide)
    have hr5 : Room 5 _ := hr.mono (by decide)
    have lam := fun {params : Arguments} {body : Expr} {scope : Scope} {t : XK → TE} {p lpos pos : Pos} (L : LamS (defScope (topS 35)) scope) (hdef) (hbind) (hbody) =>
      pe_lamcall (X := (cxOf CX0 P w K mg base nRt "_law_is_right" (defScope (topS 35)) g (.ref c) A fr s H E).nox) (T := TT1 T0) (TT := TTsaid K D) (k := 5) (a := "_law_ask") (Ng := nSaid) (params := params) (body := body) (scope := scope) (t := t) (p := p) (lpos := lpos) (pos := pos)
        (by rfl) S.m S.F.kp look cdOk S.b scSaid rfl (.inl rfl) (said_gives R.F R.b R.m GR mL ex hr2) TB rfl (List.mem_cons_self ..) (fun p hp _ => congrArg Prod.snd (List.mem_singleton.mp hp)) hr L hdef hbind hbody
    refine ⟨_, pss_cons (ps_set (i := 2) scRt.nd rfl (.inl rfl) (pe_callB (call_show hq hr.units) (by rfl) mp boot_repr (pa_cons (pe_lst (pa_cons (pv 0) (pa_cons (pv 1) pa_nil))) pa_nil)))
      (pss_cons (ps_if (pt_cmpR op_ne (pe_callB call_showB (by rfl) mp boot_repr (pa_cons (pe_call O1 hr3 (by rfl) A1.m A1.F.kp A1.b .nil pass0 (pa_cons (pv 0) (pa_cons (pv 1) pa_nil))) pa_nil))
          (pe_callB call_showB (by rfl) mp boot_repr (pa_cons (pe_call O2 hr1 (by rfl) A2.m A2.F.kp A2.b .nil pass0 (pa_cons (pv 0) (pa_cons (pv 1) pa_nil))) pa_nil)) (nomark _)) (pss_one (ps_ret pe_bl)) pss_nil)
      (pss_cons (ps_if (pt_not (pt_val (pe_call O2 hr1 (by rfl) A2.m A2.F.kp A2.b .nil pass0 (pa_cons (pv 0) (pa_cons (pv 1) pa_nil)))))
        (pss_one (ps_ret (pe_and (pe_cmpR (op_eqD hr.units) (lam (lamS_by (by decide +kernel)) rfl (fun _ _ _ _ _ => rfl) (fun A' outer s' H' E' f' c' hr' => pe_call O4 hr' (by rfl) A4.m A4.F.kp A4.b .nil (passes_call (takes_of rfl rfl rfl rfl) (fun _ _ _ _ h => h)) (pa_cons (pv 0) (pa_cons (pv 1) pa_nil))))
            (pe_call OU hr1 (by rfl) U.m U.F.kp U.b .nil pass0 (pa_cons pe_str pa_nil)) (nomark _))
          (pe_one (pe_cmpR op_eq (pe_callB (call_show hq hr.units) (by rfl) mp boot_repr (pa_cons (pe_lst (pa_cons (pv 0) (pa_cons (pv 1) pa_nil))) pa_nil)) (pv 2) (nomark _)))))) pss_nil)
      (pss_cons (ps_if (pt_cmpR op_gt (pe_callB (cr_sumT (by rfl)) (by rfl) ms (by decide +kernel) (pa_cons (pv 1) pa_nil)) pe_int (nomark _)) (pss_one (ps_ret pe_bl)) pss_nil)
      (pss_one (ps_ret (pe_and (pe_cmpR op_eq (pe_callB (call_show hq hr.units) (by rfl) mp boot_repr (pa_cons (pe_call O4 hr5 (by rfl) A4.m A4.F.kp A4.b .nil passF (pa_cons (pv 0) (pa_cons (pv 1) pa_nil))) pa_nil))
          (pe_callB (call_show hq hr.units) (by rfl) mp boot_repr (pa_cons (pe_call O3 hr1 (by rfl) A3.m A3.F.kp A3.b .nil pass0 (pa_cons (pv 0) (pa_cons (pv 1) pa_nil))) pa_nil)) (nomark _))
        (pe_one (pe_cmpR op_eq (pe_callB (call_show hq hr.units) (by rfl) mp boot_repr (pa_cons (pe_lst (pa_cons (pv 0) (pa_cons (pv 1) pa_nil))) pa_nil)) (pv 2) (nomark _))))))))), ?_⟩
    refine kept_read rfl rfl hP ok hd fine fun G1 s1 => ?_
    refine ⟨v, rfl, x, rfl, v, x, pg, d, rfl, hP.same s1, ok, dKeep s1 hd, fun G2 s2 => ?_⟩
    have s12 := s1.trans s2
    refine ⟨_, rfl, v, rfl, x, rfl, v, x, pg, d, rfl, hP.same s12, ok, dKeep s12 hd, fine.g, Nat.le_trans fine.dp (by decide), fine.n, fun G3 s3 => ?_⟩
    have s13 := s12.trans s3
    refine ⟨_, rfl, rfl, false, by rw [decide_eq_true rfl]; rfl, iteF ?_⟩
    refine ⟨v, rfl, x, rfl, v, x, pg, d, rfl, hP.same s13, ok, dKeep s13 hd, fine.g, Nat.le_trans fine.dp (by decide), fine.n, fun G4 s4 => ⟨_, rfl, ?_⟩⟩
    have s14 := s13.trans s4
    have hP4 := hP.same s14
    have hd4 := dKeep s14 hd
    have tb4 := tb.ext s14
    cases z : numsB pg.es.length d
    · refine iteT ?_
      refine told_no rfl rfl hP4 ok nd hd4 z tb4 fun p H5 e5 t5 hp5 => ?_
      refine ⟨.str "numbers", rfl, fun u nu => ?_⟩
      have su := same_new (o := useRow "numbers") nu
      refine ⟨dUse "numbers", dUse "numbers", dp_use (su _ _ hp5), dp_use upd_same, by decide +kernel, by decide +kernel, ?_⟩
      refine ⟨true, by kernel_rfl, iteT ?_⟩
      have e6 := e5.trans (ext_same su)
      have t6 := t5.ext su
      refine kept_read rfl rfl (hP4.ts (ext_ts e6)) ok (dpE e6 hd4) fine fun G7 s7 => ?_
      refine ⟨_, rfl, rfl, ?_⟩
      rw [decide_eq_true rfl]
      exact q _ ((ext_same s14).trans (e6.trans (ext_same s7))) (t6.ext s7)
    · refine iteF ?_
      obtain ⟨ns, rfl, lm, one⟩ := numsB_inv z
      obtain ⟨px, xs, rfl, hx, hxs⟩ : ∃ px xs, x = .ref px ∧ SqT K H px xs ∧ DpAll K H xs (ns.map fun n => PyData.int (n : Nat)) := by
        cases hd with
        | tup a b => exact ⟨_, _, rfl, a, b⟩
      obtain rfl := intsD hxs
      have hs : SqT K G4 px ((ns.map fun n => ((n : Nat) : Int)).map V.int) := by
        rw [List.map_map]
        exact tupS s14 hx
      refine ⟨.ref px, rfl, px, ns.map (fun n => ((n : Nat) : Int)), rfl, hs, _, 200, rfl, rfl, _, rfl, ?_⟩
      rw [sum_nat]
      by_cases big : 200 < ns.sum
      · rw [decide_eq_true (show (200 : Int) < ((ns.sum : Nat) : Int) by omega)]
        exact iteT (q G4 (ext_same s14) tb4)
      · rw [decide_eq_false (show ¬ (200 : Int) < ((ns.sum : Nat) : Int) by omega)]
        refine iteF ?_
        have bm : ∀ m ∈ ns, 1 ≤ m ∧ m ≤ 1000 := fun m hm => ⟨one m hm, by have := mem_sum hm; omega⟩
        have sh := sh_stores (ks := pg.es.map (fun e : Ent => e.name)) (ms := ns) (fun k hk => by
          obtain ⟨e, he, rfl⟩ := List.mem_map.mp hk
          exact (ok.2.1 e he).1) (by omega)
        refine ⟨v, rfl, .ref px, rfl, v, .ref px, pg, numD ns, rfl, hP4, ok, nd, hd4, .inl ⟨ns, rfl, lm, bm, fun p ws G5 s5 np hp hS => ?_⟩⟩
        refine ⟨p, .tuple ((allSt (pg.es.map (fun e : Ent => e.name)) ns).map dSt), rfl, .tup (.inl (.inl hp)) hS.dp, sh.ok, sh.nd, sh.dp, Nat.le_trans sh.ln size16, ?_⟩
        have s15 := s14.trans s5
        refine ⟨v, rfl, .ref px, rfl, v, .ref px, pg, ns, rfl, hP.same s15, ok, ⟨px, rfl, tupS s15 hx⟩, lm, fun m hm => (bm m hm).2, fun p2 ws2 G6 s6 np2 hp2 hS2 => ?_⟩
        refine ⟨p2, .tuple ((allSt (pg.es.map (fun e : Ent => e.name)) ns).map dSt), rfl, .tup (.inl (.inl hp2)) hS2.dp, sh.ok, sh.nd, sh.dp, Nat.le_trans sh.ln size16, rfl, ?_⟩
        refine ⟨true, by rw [decide_eq_true rfl], iteT ?_⟩
        have s16 := s15.trans s6
        refine kept_read rfl rfl (hP.same s16) ok (dKeep s16 hd) fine fun G7 s7 => ?_
        refine ⟨_, rfl, rfl, ?_⟩
        rw [decide_eq_true rfl]
        exact q _ (ext_same (s16.trans s7)) (tb.ext (s16.trans s7))
end
end Kn


/-! Kn: f(y1 = e1, y2 = e2), the other way about than the def names them; the def raises nothing. -/
namespace Kn
open PySem PySem.Spec PyProof.Rows L2
section
variable {X : Cx} {k : Nat} {f : Addr} {fd : FuncData} {y1 y2 x : Str} {sp : Sp} {p pos k1 k2 : Pos} {e1 e2 : Expr} {t1 t2 : TE}
theorem pe_kw2n (F : FnOk X.prog X.w X.K X.mg X.base CX0 k f fd [y2, y1] sp) (hr : Room k X.A) (hg : Gl X x) (hm : X.mg x = some (.ref f)) (hk : PySem.W.keepIn X.K (.ref f) = true)
    (hb : ∀ (s : Shared) (u v : Value), BindsTo s fd ⟨[], [(y1, u), (y2, v)]⟩ [(y2, v), (y1, u)]) (he1 : PE X e1 t1) (he2 : PE X e2 t2) (hdb : (x == ("__debug__" : Str)) = false := by decide)
    (h1 : (backToKw pos (keywordEach [⟨some y1, e1, k1⟩, ⟨some y2, e2, k2⟩] X.env)).all (·.1.isSome) = true := by rfl) (h2 : (backToKw pos (keywordEach [⟨some y1, e1, k1⟩, ⟨some y2, e2, k2⟩] X.env)).filterMap (·.1) = [y1, y2] := by rfl)
    (h3 : ((backTo pos (starEach [] X.env)).any (·.1) || (backToKw pos (keywordEach [⟨some y1, e1, k1⟩, ⟨some y2, e2, k2⟩] X.env)).any (·.1.isNone)) = false := by rfl) :
    PE X (.Call (.Name x p) [] [⟨some y1, e1, k1⟩, ⟨some y2, e2, k2⟩] pos) (tKw2 sp t1 t2) := by
  have hkw : PK X [⟨some y1, e1, k1⟩, ⟨some y2, e2, k2⟩] (tCons t1 (tCons t2 tNil)) := pk_cons he1 (pk_cons he2 pk_nil)
  refine ⟨fun pins s σ H Q I told => wpAny_Call_Name_kw (ld_glob I hg hm ?_ hdb)⟩
  refine PySem.W.callWith_KW0 (h₀ := X.base) I.ok.mod.kin hk h1 (thn (hkw.run pos pins s σ H (fun vs G => ∃ u v, vs = [u, v] ∧ sp [v, u] G Q E0) I ?_) ?_) h3
  · exact (told : t1 σ H fun u G => t2 σ G fun v G' => sp [v, u] G' Q E0) |> fun z => by
      have mono : (tCons t1 (tCons t2 tNil)) σ H (fun vs G => ∃ u v, vs = [u, v] ∧ sp [v, u] G Q E0) = (t1 σ H fun u G => t2 σ G fun v G' => ∃ u' v', [u, v] = [u', v'] ∧ sp [v', u'] G' Q E0) := rfl
      rw [mono]
      have e : (fun (u : V) (G : Hp) => t2 σ G fun v G' => ∃ u' v', [u, v] = [u', v'] ∧ sp [v', u'] G' Q E0) = fun u G => t2 σ G fun v G' => sp [v, u] G' Q E0 := by
        funext u G
        have e2 : (fun (v : V) (G' : Hp) => ∃ u' v', [u, v] = [u', v'] ∧ sp [v', u'] G' Q E0) = fun v G' => sp [v, u] G' Q E0 := by
          funext v G'
          exact propext ⟨fun ⟨u', v', h, q⟩ => by cases h; exact q, fun q => ⟨u, v, rfl, q⟩⟩
        rw [e2]
      rw [e]
      exact z
  · rintro us s1 ⟨vs, H1, I1, rv, u0, v0, rfl, q⟩
    refine ⟨I1.kIn, ?_⟩
    rw [h2]
    cases rv with
    | cons r1 rr =>
      cases rr with
      | cons r2 rr =>
        cases rr
        refine wpAny_call (codeAny_mono (F.run X.A X.stack s1 H1 ⟨[], [(y1, _), (y2, _)]⟩ [_, _] [v0, u0] Q E0 hr I1.env0 (hb s1 _ _) (.cons r2 (.cons r1 .nil)) q) ?_)
        intro r s2 out
        cases r with
        | error _ => exact False.elim out
        | ok fl =>
          cases fl with
          | ret u => exact I1.after out
          | next => exact False.elim out
          | brk => exact False.elim out
          | cont => exact False.elim out
end
end Kn


namespace Kn
open PySem PySem.Spec PyProof.Rows L2
/-! ### expressions that make data of what the slots hold -/
section
variable {K : PySem.W.Frag} {σ : L2.St} {H0 : Hp}
def DX (K : PySem.W.Frag) (σ : L2.St) (H0 : Hp) (t : TE) (d : PyData) : Prop := ∀ (H : Hp) (Q : VK), Same H0 H → (∀ (v : V) (H' : Hp), Same H H' → Dp K H' v d → Q v H') → t σ H Q
def AX (K : PySem.W.Frag) (σ : L2.St) (H0 : Hp) (t : TA) (ds : List PyData) : Prop := ∀ (H : Hp) (Q : List V → Hp → Prop), Same H0 H → (∀ (vs : List V) (H' : Hp), Same H H' → DpAll K H' vs ds → Q vs H') → t σ H Q
variable {t u : TE} {ta : TA} {d : PyData} {ds es : List PyData}
theorem dx_of (h : DE K t d) : DX K σ H0 t d := fun H Q _ q => h σ H Q q
theorem dx_var {i : Nat} {v : V} (e : σ[i]? = some (some v)) (h : Dp K H0 v d) : DX K σ H0 (tVar i) d := fun H Q s q => ⟨v, e, q v H (Same.refl H) (dKeep s h)⟩
theorem ax_nil : AX K σ H0 tNil [] := fun H _ _ q => q _ H (Same.refl H) .nil
theorem ax_cons (h : DX K σ H0 t d) (k : AX K σ H0 ta ds) : AX K σ H0 (tCons t ta) (d :: ds) := fun H Q s q => h H _ s fun v H1 s1 d1 => k H1 _ (s.trans s1) fun vs H2 s2 d2 => q _ H2 (s1.trans s2) (.cons (dKeep s2 d1) d2)
theorem dx_tup (h : AX K σ H0 ta ds) (few : ds.length ≤ 1000) : DX K σ H0 (tTup ta) (.tuple ds) := fun H Q s q => h H _ s fun vs H1 s1 d1 => by
  refine ⟨by rw [dsLen d1]; exact Nat.le_trans few (by decide), fun p np => ?_⟩
  have s2 := same_new (o := .tup vs) np
  exact q _ _ (s1.trans s2) (.tup (.inl (.inl upd_same)) (dsKeep s2 d1))
theorem dx_cat (h : DX K σ H0 t (.tuple ds)) (k : DX K σ H0 u (.tuple es)) (few : ds.length + es.length ≤ 1000) : DX K σ H0 (tOp (rCatA K) t u) (.tuple (ds ++ es)) := fun H Q s q =>
  h H _ s fun v H1 s1 d1 => k H1 _ (s.trans s1) fun v2 H2 s2 d2 => catA (dKeep s2 d1) d2 few fun r H3 s3 d3 => q r H3 ((s1.trans s2).trans s3) d3
theorem dx_tail (h : DX K σ H0 t (.tuple ds)) : DX K σ H0 (tSl (rSlA K) t (tPart (tC (.int 1))) tNoPart) (.tuple (ds.drop 1)) := fun H Q s q =>
  h H _ s fun v H1 s1 d1 => ⟨1, rfl, slA_drop (k := 1) d1 fun r H2 s2 d2 => q r H2 (s1.trans s2) d2⟩
theorem dx_front (h : DX K σ H0 t (.tuple ds)) (ne : 0 < ds.length) : DX K σ H0 (tSl (rSlA K) t tNoPart (tPart (tUn (rU fun i => .int (-i)) (tC (.int 1))))) (.tuple (ds.take (ds.length - 1))) := fun H Q s q =>
  h H _ s fun v H1 s1 d1 => ⟨1, rfl, -1, rfl, slA_any d1 fun r H2 s2 d2 => q r H2 (s1.trans s2) (by
    have e : HT.sIx ds.length ds.length (some (-1)) = ds.length - 1 := by
      show (if (-1 : Int) < 0 then ((-1 : Int) + (ds.length : Nat)).toNat else min (-1 : Int).toNat ds.length) = _
      rw [if_pos (by decide)]
      omega
    rw [e, HT.sIx_none, List.drop_zero, Nat.sub_zero] at d2
    exact d2)⟩
theorem dx_list (h : DX K σ H0 t (.tuple ds)) : DX K σ H0 (tCB (fun xs H Q => ∃ p ys, xs = [.ref p] ∧ (SqL K H p ys ∨ SqT K H p ys) ∧ ∀ l, H l = none → Q (.ref l) (upd H l (.lst ys))) (tCons t tNil)) (.list ds) := fun H Q s q =>
  h H _ s fun v H1 s1 d1 => by
    cases d1 with
    | tup ht hds =>
      rename_i a xs
      refine ⟨_, _, rfl, .inr ht, fun l nl => ?_⟩
      have s2 := same_new (o := .lst xs) nl
      exact q _ _ (s1.trans s2) (.lst (.inl (.inl upd_same)) (dsKeep s2 hds))
theorem dx_mul (h : DX K σ H0 t (.tuple ds)) (pos : 0 < ds.length) (few : ds.length ≤ 1000) :
    DX K σ H0 (tOp (rMulT K) (tTup (tCons (tC (.bl true)) tNil)) (tCB (fun xs H Q => ∃ p ys, xs = [.ref p] ∧ (SqL K H p ys ∨ SqT K H p ys) ∧ Q (.int ys.length) H) (tCons t tNil))) (.tuple (List.replicate ds.length (.bool true))) := fun H Q s q => by
  refine ⟨(show 1 ≤ sizeLine by decide), fun p np => ?_⟩
  have s1 := same_new (o := .tup [.bl true]) np
  refine h _ _ (s.trans s1) fun v H1 s2 d1 => ?_
  cases d1 with
  | tup ht hds =>
    rename_i a xs
    have lx := dsLen hds
    refine ⟨a, xs, rfl, .inr ht, p, (xs.length : Nat), [.bl true], rfl, rfl, .inl (.inl (s2 _ _ upd_same)), (fun z => by cases z), by omega, by omega, (show 1 ≤ 1000 by decide), fun k1 => ?_, fun p2 np2 => ?_⟩
    · have e : ds.length = 1 := by omega
      rw [e] at q
      exact q _ _ (s1.trans s2) (.tup (.inl (.inl (s2 _ _ upd_same))) (.cons (.bl true) .nil))
    · have s3 := same_new (o := .tup (List.replicate ((xs.length : Nat) : Int).toNat [V.bl true]).flatten) np2
      refine q _ _ ((s1.trans s2).trans s3) (.tup (.inl (.inl upd_same)) ?_)
      have rep : ∀ n : Nat, DpAll K (upd H1 p2 (.tup (List.replicate ((xs.length : Nat) : Int).toNat [V.bl true]).flatten)) (List.replicate n [V.bl true]).flatten (List.replicate n (.bool true)) := by
        intro n
        induction n with
        | zero => exact .nil
        | succ n ih => exact .cons (.bl true) ih
      have e : ((xs.length : Nat) : Int).toNat = ds.length := by omega
      rw [e] at rep ⊢
      exact rep _
theorem lx_lst (h : AX K σ H0 ta ds) (few : ds.length ≤ 1000) {H : Hp} {Q : VK} (s : Same H0 H) (q : ∀ (l : Addr) (vs : List V) (H' : Hp), Same H H' → H l = none → H' l = some (.lst vs) → DpAll K H' vs ds → Q (.ref l) H') : tLst ta σ H Q :=
  h H _ s fun vs H1 s1 d1 => by
    refine ⟨by rw [dsLen d1]; exact Nat.le_trans few (by decide), fun p np => ?_⟩
    have s2 := same_new (o := .lst vs) np
    exact q p vs _ (s1.trans s2) (s1.free np) upd_same (dsKeep s2 d1)
/-- a list, more items behind it; what it is made of stays as it was before the sum -/
theorem lx_grow {l : Addr} {vs : List V} {H : Hp} {Q : VK} (e : H l = some (.lst vs)) (d1 : DpAll K H vs ds) (hs : Same H0 H) (ht : ∀ R : VK, R (.ref l) H → t σ H R) (k : AX K σ H0 ta es) (few : ds.length + es.length ≤ 1000)
    (q : ∀ (p : Addr) (ws : List V) (G : Hp), Same H G → G p = none → DpAll K G ws (ds ++ es) → Q (.ref p) (upd G p (.lst ws))) : tOp rCat t (tLst ta) σ H Q := by
  refine ht _ (lx_lst k (Nat.le_trans (Nat.le_add_left _ _) few) hs fun r ws H2 s2 n2 e2 d2 => ?_)
  refine ⟨l, r, vs, ws, rfl, rfl, s2 _ _ e, e2, by rw [dsLen d1, dsLen d2]; exact Nat.le_trans few (by decide), fun p np => ?_⟩
  exact q p _ H2 s2 np (dsApp (dsKeep s2 d1) d2)
theorem flat_up {G G' : Hp} : ∀ {es : List PyData} {vs : List V}, (∀ e ∈ es, e = .none ∨ ∃ i, e = .int i) → DpAll K G vs es → DpAll K G' vs es
  | [], _, _, .nil => .nil
  | e :: r, _, h, .cons a b => by
    refine .cons ?_ (flat_up (fun z hz => h z (List.mem_cons_of_mem _ hz)) b)
    rcases h e (List.mem_cons_self ..) with rfl | ⟨i, rfl⟩
    · cases a
      exact .non
    · cases a
      exact .int i
end
end Kn


namespace Kn
open PySem PySem.Spec PyProof.Rows L2 LamX
theorem lt_ne {a b : Str} (ha : a ∈ names) (h : Lt a b) : a ≠ b := by
  have all : (names.all fun a => !ltCps a.cps.toList a.cps.toList) = true := by decide +kernel
  have q := List.all_eq_true.mp all a ha
  rintro rfl
  unfold Lt at h
  rw [h] at q
  cases q
theorem asc_nodup {ys : List Str} (h : Asc ys) (hn : ∀ y ∈ ys, y ∈ names) : ys.Nodup := List.Pairwise.imp_of_mem (fun {a b} ha _ l => lt_ne (hn a ha) l) h
theorem dpNats {K : PySem.W.Frag} {H : Hp} : ∀ ns : List Nat, DpAll K H (ns.map fun n => V.int (n : Nat)) (ns.map fun n => PyData.int (n : Nat))
  | [] => .nil
  | n :: r => .cons (.int _) (dpNats r)
/-! ### the values that the law makes of counts -/
theorem fine_cut {n k : Nat} {ds : List PyData} (h : Tm n k ds) (hn : n ≤ 899) (hk : k ≤ 9) : Fine (.tuple ds) := ⟨h.g, by show PyData.depthAll ds + 1 ≤ 10; have := h.d; omega, by show 1 + nodesDs ds ≤ 900; have := h.n; omega⟩
theorem tm_nats : ∀ (ns : List Nat), (∀ m ∈ ns, m ≤ 30) → Tm ns.length 0 (ns.map fun n => PyData.int (n : Nat))
  | [], _ => .nil 0 0
  | n :: r, h => by
    have ih := tm_nats r fun z hz => h z (List.mem_cons_of_mem _ hz)
    have h1 := h n (List.mem_cons_self ..)
    have a := (Tm.one (n := 1) (k := 0) (d := PyData.int (n : Nat)) (by show decide (((n : Nat) : Int).natAbs < 10 ^ 60) = true; exact decide_eq_true (Nat.lt_of_le_of_lt (show ((n : Nat) : Int).natAbs ≤ 30 by omega) (by decide))) (by show 1 ≤ 1; decide) (Nat.le_refl _)).app ih
    exact a.mono (by rw [List.length_cons]; omega) (Nat.le_refl _)
theorem tm_bools : ∀ n : Nat, Tm n 0 (List.replicate n (.bool true))
  | 0 => .nil 0 0
  | n + 1 => by
    have a := (Tm.one (n := 1) (k := 0) (d := PyData.bool true) rfl (by show 1 ≤ 1; decide) (Nat.le_refl _)).app (tm_bools n)
    exact a.mono (by omega) (Nat.le_refl _)
theorem tm_int {i : Int} (h : i.natAbs < 10 ^ 60) : Tm 1 0 [.int i] := Tm.one (by show decide (i.natAbs < 10 ^ 60) = true; exact decide_eq_true h) (by show 1 ≤ 1; decide) (Nat.le_refl _)
abbrev cs (ns : List Nat) : List PyData := ns.map fun n => .int (n : Nat)
abbrev front (ns : List Nat) : List PyData := (cs ns).take ((cs ns).length - 1)
abbrev oddsA (ns : List Nat) : List PyData := [.none, .tuple [], .bool true, .int 1, .str "1", .list [], .list (cs ns), .tuple (cs ns ++ [.int 1]), .tuple ((cs ns).drop 1), .tuple (front ns ++ [.int 0]), .tuple [numD ns]]
abbrev oddsB (ns : List Nat) : List PyData := [.tuple (List.replicate (cs ns).length (.bool true)), .tuple (front ns ++ [.int (-1)]), .tuple (front ns ++ [.str "1"]), .tuple (front ns ++ [.int (10 ^ (59 : Int).toNat)])]
abbrev oddC (ns : List Nat) : PyData := .tuple ([.none] ++ (cs ns).drop 1)
theorem fine_counts {ns : List Nat} (h : ∀ m ∈ ns, m ≤ 30) (l : ns.length ≤ 5) : Fine (numD ns) := fine_cut (tm_nats ns h) (by omega) (by decide)
theorem fine_odds {ns : List Nat} (h : ∀ m ∈ ns, m ≤ 30) (l : ns.length ≤ 5) : ∀ d ∈ oddsA ns ++ oddsB ns ++ [oddC ns], Fine d := by
  have t := tm_nats ns h
  have tf := t.take ((cs ns).length - 1)
  have td := t.drop 1
  have fin : ∀ d : PyData, (goodD d && decide (d.depth ≤ 10) && decide (nodesD d ≤ 900)) = true → Fine d := fun d z => by
    obtain ⟨z1, z3⟩ := Bool.and_eq_true_iff.mp z
    obtain ⟨z1, z2⟩ := Bool.and_eq_true_iff.mp z1
    exact ⟨z1, of_decide_eq_true z2, of_decide_eq_true z3⟩
  intro d hd
  rw [List.mem_append, List.mem_append] at hd
  simp only [List.mem_cons, List.not_mem_nil, or_false] at hd
  rcases hd with (hd | hd) | rfl
  · rcases hd with rfl | rfl | rfl | rfl | rfl | rfl | rfl | rfl | rfl | rfl | rfl
    · exact fin _ (by decide +kernel)
    · exact fin _ (by decide +kernel)
    · exact fin _ (by decide +kernel)
    · exact fin _ (by decide +kernel)
    · exact fin _ (by decide +kernel)
    · exact fin _ (by decide +kernel)
    · have f := fine_counts h l
      exact ⟨f.g, f.dp, f.n⟩
    · exact fine_cut (t.app (tm_int (by decide))) (by omega) (by decide)
    · exact fine_cut td (by omega) (by decide)
    · exact fine_cut (tf.app (tm_int (by decide))) (by omega) (by decide)
    · have f := fine_counts h l
      have g : goodDs (cs ns) = true := f.g
      refine ⟨?_, ?_, ?_⟩
      · show (goodDs (cs ns) && true) = true
        rw [g]
        rfl
      · show max (PyData.depthAll (cs ns) + 1) 0 + 1 ≤ 10
        have : PyData.depthAll (cs ns) ≤ 0 := t.d
        omega
      · show 1 + (1 + nodesDs (cs ns) + 0) ≤ 900
        have : nodesDs (cs ns) ≤ ns.length := t.n
        omega
  · rcases hd with rfl | rfl | rfl | rfl
    · exact fine_cut (tm_bools _) (by rw [List.length_map]; omega) (by decide)
    · exact fine_cut (tf.app (tm_int (by decide))) (by omega) (by decide)
    · exact fine_cut (tf.app (Tm.one (n := 2) (k := 0) (d := .str "1") (by decide +kernel) (by decide +kernel) (Nat.le_refl _))) (by omega) (by decide)
    · exact fine_cut (tf.app (tm_int (by decide +kernel))) (by omega) (by decide)
  · exact fine_cut (Tm.app (n := 1) (Tm.one (k := 0) rfl (by show 1 ≤ 1; decide) (Nat.le_refl _)) td) (by omega) (by decide)
section
variable {K : PySem.W.Frag}
theorem page2e {n1 n2 c : Str} {f1 f2 : Int} {b1 b2 : Bool} {σ : L2.St} {J : Hp} {Q : VK} (k : ∀ (v : V) (J' : Hp), Same J J' → PgAt K J' v ⟨[⟨n1, f1, b1, []⟩, ⟨n2, f2, b2, []⟩], c⟩ → Q v J') :
    tTup (tCons (tTup (tCons (tTup (tCons (tC (.str n1)) (tCons (tC (.int f1)) (tCons (tC (.bl b1)) (tCons (tTup tNil) tNil))))) (tCons (tTup (tCons (tC (.str n2)) (tCons (tC (.int f2)) (tCons (tC (.bl b2)) (tCons (tTup tNil) tNil))))) tNil))) (tCons (tC (.str c)) tNil)) σ J Q := by
  refine ⟨Nat.zero_le _, fun p1 m1 => ⟨(show 4 ≤ sizeLine by decide), fun p2 m2 => ⟨Nat.zero_le _, fun p3 m3 => ⟨(show 4 ≤ sizeLine by decide), fun p4 m4 => ⟨(show 2 ≤ sizeLine by decide), fun p5 m5 => ⟨(show 2 ≤ sizeLine by decide), fun p6 m6 => ?_⟩⟩⟩⟩⟩⟩
  have z1 := same_new (o := .tup []) m1
  have z2 := same_new (o := .tup [.str n1, .int f1, .bl b1, .ref p1]) m2
  have z3 := same_new (o := .tup []) m3
  have z4 := same_new (o := .tup [.str n2, .int f2, .bl b2, .ref p3]) m4
  have z5 := same_new (o := .tup [.ref p2, .ref p4]) m5
  have z6 := same_new (o := .tup [.ref p5, .str c]) m6
  refine k (.ref p6) _ (((((z1.trans z2).trans z3).trans z4).trans z5).trans z6) ⟨p6, p5, [.ref p2, .ref p4], rfl, .inl (.inl upd_same), tupS z6 (.inl (.inl upd_same)), .cons ⟨p2, p1, rfl, ?_, ?_⟩ (.cons ⟨p4, p3, rfl, ?_, ?_⟩ .nil)⟩
  · exact tupS (((z3.trans z4).trans z5).trans z6) (.inl (.inl upd_same))
  · exact tupS ((((z2.trans z3).trans z4).trans z5).trans z6) (.inl (.inl upd_same))
  · exact tupS (z5.trans z6) (.inl (.inl upd_same))
  · exact tupS ((z4.trans z5).trans z6) (.inl (.inl upd_same))
end
end Kn


namespace Kn
open PySem PySem.Spec PyProof.Rows L2 LamX
abbrev nLaw : List Str := ["_law_script", "_law_feed", "_law_lap", "_law_page_here", "_law_counts_here", "_law_odds", "_law_turn", "_law_once", "_law_lone", "_law_due", "_law_item"]
theorem scLaw : FnScope nLaw ["_law_script"] (defScope (topS 36)) := ⟨rfl, rfl, rfl, by decide +kernel, rfl, by decide +kernel, by decide +kernel⟩
def spLaw (K : PySem.W.Frag) (T : List (Addr × Str)) : Sp := fun vs H Q _ => ∃ (a : Addr) (ns : List Int), vs = [.ref a] ∧ SqL K H a (ns.map V.int) ∧ ns.length ≤ 63 ∧ Tabs T H ∧ ∀ H', Q (.bl true) H'
def gLone : Pg := ⟨[⟨"b", 3, true, []⟩, ⟨"c", 1, false, []⟩], "c"⟩
section
variable {P : Program} {w : World} {K : PySem.W.Frag} {mg : Str → Option Value} {base : Heap}
theorem ok_law {g T0 D gB gP gC gN gI gO gL gA : Addr} {fd fB fP fC fN fI fO fL fA : FuncData} (F : Fun K "law" "law" (topS 36) g fd)
    (B : Def K mg "_law_start" 22 ["_law_script"] gB fB) (OB : FnOk P w K mg base CX0 1 gB fB ["_law_script"] (spStart K))
    (G : Def K mg "_law_page" 26 ["_law_feed", "_law_most"] gP fP) (OG : FnOk P w K mg base CX0 4 gP fP ["_law_feed", "_law_most"] (spPg K))
    (C : Def K mg "_law_counts" 32 ["_law_feed", "_law_page_here"] gC fC) (OC : FnOk P w K mg base CX0 3 gC fC ["_law_feed", "_law_page_here"] (spCnt K))
    (N : Def K mg "_law_bent" 28 ["_law_feed", "_law_item"] gN fN) (ON : FnOk P w K mg base CX0 9 gN fN ["_law_feed", "_law_item"] (spBent K 5))
    (kV : PySem.W.keepIn K (.ref gI) = true) (bV : Binds K fI ["_law_page_here", "_law_item"] []) (mV : mg "_law_is_right" = some (.ref gI)) (OV : Vow P w K mg base 8 gI fI ["_law_page_here", "_law_item"] (spRt K (TT1 T0)))
    (S : Def K mg "stores_of" 20 ["web", "numbers"] gO fO) (OS : FnOk P w K mg base (L2.CX P w) 5 gO fO ["web", "numbers"] (spStores K D)) (kS : ∀ (s : Shared) (u v : Value), BindsTo s fO ⟨[], [("numbers", u), ("web", v)]⟩ [("web", v), ("numbers", u)])
    (L : Def K mg "_law_stores" 34 ["_law_page_here", "_law_counts_here"] gL fL) (OL : FnOk P w K mg base CX0 1 gL fL ["_law_page_here", "_law_counts_here"] (spLs K))
    (A1 : Def K mg "are_numbers" 16 ["web", "thing"] gA fA) (OA : FnOk P w K mg base CX0 3 gA fA ["web", "thing"] (spAre K)) (kA : ∀ (s : Shared) (u v : Value), BindsTo s fA ⟨[], [("thing", u), ("web", v)]⟩ [("web", v), ("thing", u)])
    (mr : mg "range" = none) (mp : mg "repr" = none) (ml : mg "len" = none) (mli : mg "list" = none) :
    Vow P w K mg base 10 g fd ["_law_script"] (spLaw K (TT1 T0)) := by
  refine Vow.body F scLaw (fun vs H Q E h => ?_) (fun cdv A outer s H vs Q E hq hr h => ?_)
  · obtain ⟨a, ns, rfl, _⟩ := h
    rfl
  · obtain ⟨a0, ns0, rfl, hS, hl, tb, q⟩ := h
    have hr1 : Room 1 _ := hr.mono (by decide)
    have hr3 : Room 3 _ := hr.mono (by decide)
    have hr4 : Room 4 _ := hr.mono (by decide)
    have hr5 : Room 5 _ := hr.mono (by decide)
    have hr7 : Room 8 _ := hr.mono (by decide)
    refine ⟨_, pss_cons (ps_set (i := 1) scLaw.nd rfl (.inl rfl) (pe_call OB hr1 (by rfl) B.m B.F.kp B.b .nil pass0 (pa_cons (pv 0) pa_nil)))
      (pss_cons (ps_for PassesOwn.never rfl (pi_range1 (by rfl) mr (pa_cons pe_int pa_nil)) (pg_name (i := 2) scLaw.nd rfl (.inl rfl))
        (pss_cons (ps_set (i := 3) scLaw.nd rfl (.inr rfl) (pe_call OG hr4 (by rfl) G.m G.F.kp G.b .nil pass0 (pa_cons (pv 1) (pa_cons pe_int pa_nil))))
        (pss_cons (ps_set (i := 4) scLaw.nd rfl (.inl rfl) (pe_call OC hr3 (by rfl) C.m C.F.kp C.b .nil pass0 (pa_cons (pv 1) (pa_cons (pv 3) pa_nil))))
        (pss_cons (ps_set (i := 5) scLaw.nd rfl (.inl rfl) (pe_lst (pa_cons pe_non (pa_cons (pe_tup pa_nil) (pa_cons pe_bl (pa_cons pe_int (pa_cons pe_str (pa_cons (pe_lst pa_nil) (pa_cons (pe_callTy call_list_of (by rfl) mli (by decide +kernel) (pa_cons (pv 4) pa_nil))
          (pa_cons (pe_op op_catA (pv 4) (pe_tup (pa_cons pe_int pa_nil))) (pa_cons (pe_slice sl_tupA (pv 4) (po_some pe_int) po_none)
          (pa_cons (pe_op op_catA (pe_slice sl_tupA (pv 4) po_none (po_some (pe_un un_neg pe_int))) (pe_tup (pa_cons pe_int pa_nil))) (pa_cons (pe_tup (pa_cons (pv 4) pa_nil)) pa_nil)))))))))))))
        (pss_cons (ps_set (i := 5) scLaw.nd rfl (.inl rfl) (pe_op op_cat (pv 5) (pe_lst (pa_cons (pe_op op_mulT (pe_tup (pa_cons pe_bl pa_nil)) (pe_callB call_len_seq (by rfl) ml PySem.boot_len (pa_cons (pv 4) pa_nil)))
          (pa_cons (pe_op op_catA (pe_slice sl_tupA (pv 4) po_none (po_some (pe_un un_neg pe_int))) (pe_tup (pa_cons (pe_un un_neg pe_int) pa_nil)))
          (pa_cons (pe_op op_catA (pe_slice sl_tupA (pv 4) po_none (po_some (pe_un un_neg pe_int))) (pe_tup (pa_cons pe_str pa_nil)))
          (pa_cons (pe_op op_catA (pe_slice sl_tupA (pv 4) po_none (po_some (pe_un un_neg pe_int))) (pe_tup (pa_cons (pe_op op_pow pe_int pe_int) pa_nil))) pa_nil)))))))
        (pss_cons (ps_expr (pe_bm PySem.F.plainAttrs_list PySem.F.slot_list_append PySem.F.type_list_append mt_append (pv 5) (pa_cons (pe_op op_catA (pe_tup (pa_cons pe_non pa_nil)) (pe_slice sl_tupA (pv 4) (po_some pe_int) po_none)) pa_nil)))
        (pss_cons (ps_for PassesOwn.never rfl (pi_range1 (by rfl) mr (pa_cons pe_int pa_nil)) (pg_name (i := 6) scLaw.nd rfl (.inl rfl))
          (pss_cons (ps_set (i := 7) scLaw.nd rfl (.inl rfl) (pe_call ON hr (by rfl) N.m N.F.kp N.b .nil pass0 (pa_cons (pv 1) (pa_cons (pv 4) pa_nil))))
          (pss_one (ps_set (i := 5) scLaw.nd rfl (.inl rfl) (pe_op op_cat (pv 5) (pe_lst (pa_cons (pv 7) (pa_cons (pe_call ON hr (by rfl) N.m N.F.kp N.b .nil pass0 (pa_cons (pv 1) (pa_cons (pv 7) pa_nil))) pa_nil))))))))
        (pss_cons (ps_if (pt_cmpR (op_neD hr.units) (pe_lc (own := [("_law_item", 10)]) (g := gName 10) (by rfl) scLaw.nd (pi_list (pe_op op_cat (pe_lst (pa_cons (pv 4) pa_nil)) (pv 5))) (blkOk_by (own := [("_law_item", 10)]) (N := nLaw) (sc := defScope (topS 36)) (by decide +kernel))
              (fun _ _ _ _ _ => pg_name (i := 10) scLaw.nd rfl (Or.inl rfl)) (fun _ _ _ _ _ => pts_one (pt_not (pt_val (pe_vow OV hq hr7 (by rfl) mV kV bV (pa_cons (pv 3) (pa_cons (pv 10) pa_nil)))))) (fun _ _ _ _ _ => pv 10)) (pe_lst pa_nil) (nomark _)) (pss_one (ps_ret pe_bl)) pss_nil)
        (pss_cons (ps_if (pt_cmpR op_ne (pe_callB (call_show hq hr.units) (by rfl) mp boot_repr (pa_cons (pe_kw2 OS hr5 (by rfl) S.m S.F.kp kS (pv 4) (pv 3)) pa_nil)) (pe_callB (call_show hq hr.units) (by rfl) mp boot_repr (pa_cons (pe_call OL hr1 (by rfl) L.m L.F.kp L.b .nil pass0 (pa_cons (pv 3) (pa_cons (pv 4) pa_nil))) pa_nil)) (nomark _)) (pss_one (ps_ret pe_bl)) pss_nil)
        (pss_one (ps_if (pt_cmpR op_notBl (pe_kw2n OA hr3 (by rfl) A1.m A1.F.kp kA (pv 4) (pv 3)) pe_bl (nomark _)) (pss_one (ps_ret pe_bl)) pss_nil)))))))))))
      (pss_cons (ps_set (i := 8) scLaw.nd rfl (.inl rfl) (pe_tup (pa_cons (pe_tup (pa_cons (pe_tup (pa_cons pe_str (pa_cons pe_int (pa_cons pe_bl (pa_cons (pe_tup pa_nil) pa_nil))))) (pa_cons (pe_tup (pa_cons pe_str (pa_cons pe_int (pa_cons pe_bl (pa_cons (pe_tup pa_nil) pa_nil))))) pa_nil))) (pa_cons pe_str pa_nil))))
      (pss_cons (ps_set (i := 9) scLaw.nd rfl (.inl rfl) (pe_tup (pa_cons (pe_tup (pa_cons pe_str (pa_cons pe_int pa_nil))) (pa_cons (pe_tup (pa_cons pe_str (pa_cons pe_int pa_nil))) (pa_cons (pe_tup (pa_cons pe_str (pa_cons pe_int pa_nil))) (pa_cons (pe_tup (pa_cons pe_str (pa_cons pe_int pa_nil)))
          (pa_cons (pe_tup (pa_cons pe_str (pa_cons pe_int pa_nil))) (pa_cons (pe_tup (pa_cons pe_str (pa_cons pe_int pa_nil))) (pa_cons (pe_tup (pa_cons pe_str (pa_cons pe_int pa_nil))) (pa_cons (pe_tup (pa_cons pe_str (pa_cons pe_int pa_nil))) (pa_cons (pe_tup (pa_cons pe_str (pa_cons pe_int pa_nil))) (pa_cons (pe_tup (pa_cons pe_str (pa_cons pe_int pa_nil))) pa_nil))))))))))))
      (pss_one (ps_ret (pe_cmpR op_eq (pe_callB (call_show hq hr.units) (by rfl) mp boot_repr (pa_cons (pe_call OS hr5 (by rfl) S.m S.F.kp S.b .nil passF (pa_cons (pv 8) (pa_cons (pe_tup (pa_cons pe_int (pa_cons pe_int pa_nil))) pa_nil))) pa_nil))
        (pe_callB (call_show hq hr.units) (by rfl) mp boot_repr (pa_cons (pe_op op_catA (pv 9) (pe_tup (pa_cons (pe_tup (pa_cons pe_str (pa_cons pe_int pa_nil))) (pa_cons (pe_tup (pa_cons pe_str (pa_cons pe_int pa_nil))) pa_nil)))) pa_nil)) (nomark _))))))), ?_⟩
    refine ⟨.ref a0, rfl, a0, ns0, rfl, hS, hl, fun f a ms H1 _ sm1 fd1 => ?_⟩
    have tb1 := tb.ext sm1
    refine ⟨3, rfl, by decide, by decide, for_range (lo := 0) (n := (3 : Int).toNat) (fun i σ J => (∃ y2 y3 y4 y5 y6 y7 y8 y9 y10, σ = [some (.ref a0), some (.ref f), y2, y3, y4, y5, y6, y7, y8, y9, y10]) ∧ Fd f a ms J (2000 * i) ∧ Tabs (TT1 T0) J)
      ⟨⟨none, none, none, none, none, none, none, none, none, rfl⟩, fd1, tb1⟩ ?_ ?_⟩
    · rintro i σ J hi ⟨⟨y2, y3, y4, y5, y6, y7, y8, y9, y10, rfl⟩, fdJ, tbJ⟩
      have hi : i < 3 := hi
      refine ⟨_, rfl, f, a, ms, _, 5, rfl, by decide, by decide, fdJ, by omega, fun v pg J1 pg1 ok1 nice1 asc1 own1 asks1 g0 g5 k1 fd1 => ?_⟩
      have tb1 := tabs_fd tbJ fdJ k1
      have nd : (pg.es.map (fun e : Ent => e.name)).Nodup := asc_nodup asc1 fun y hy => by
        obtain ⟨e, he, rfl⟩ := List.mem_map.mp hy
        exact (nice1 e he).1
      refine ⟨.ref f, rfl, v, rfl, f, a, ms, _, v, pg, rfl, fd1, by omega, pg1, ok1, fun p ns J2 ln bn k2 np hp fd2 => ?_⟩
      have pg2 := pg1.ts (ts_fd fd1 k2)
      have tb2 := tabs_fd tb1 fd1 k2
      have bn2 : ∀ m ∈ ns, m ≤ 30 := fun m hm => (bn m hm).2
      have l5 : ns.length ≤ 5 := by omega
      have hc : Dp K J2 (.ref p) (numD ns) := .tup (.inl (.inl hp)) (dpNats ns)
      have lcs : (cs ns).length = ns.length := List.length_map _
      have f0 : 0 < (cs ns).length := by omega
      have lf : (front ns).length ≤ 5 := by rw [List.length_take]; omega
      dsimp only [gName]
      refine seq_asg (lx_lst (K := K) (H0 := J2) (ds := oddsA ns) (ax_cons (dx_of de_non) (ax_cons (dx_tup ax_nil (Nat.zero_le _)) (ax_cons (dx_of de_bl) (ax_cons (dx_of de_int) (ax_cons (dx_of de_str) (ax_cons (dx_of (de_lst da_nil (Nat.zero_le _)))
        (ax_cons (dx_list (dx_var rfl hc)) (ax_cons (dx_cat (dx_var rfl hc) (dx_tup (ax_cons (dx_of de_int) ax_nil) (show 1 ≤ 1000 by decide)) (show (cs ns).length + 1 ≤ 1000 by omega)) (ax_cons (dx_tail (dx_var rfl hc))
        (ax_cons (dx_cat (dx_front (dx_var rfl hc) f0) (dx_tup (ax_cons (dx_of de_int) ax_nil) (show 1 ≤ 1000 by decide)) (show (front ns).length + 1 ≤ 1000 by omega)) (ax_cons (dx_tup (ax_cons (dx_var rfl hc) ax_nil) (show 1 ≤ 1000 by decide)) ax_nil)))))))))))
        (show 11 ≤ 1000 by decide) (Same.refl _) fun L0 vs0 G0 s0 n0 e0 d0 => ?_)
      dsimp only [gName]
      refine seq_asg (lx_grow (K := K) (H0 := J2) (ds := oddsA ns) (es := oddsB ns) e0 d0 s0 (fun R r => ⟨_, rfl, r⟩) (ax_cons (dx_mul (dx_var rfl hc) f0 (by omega)) (ax_cons (dx_cat (dx_front (dx_var rfl hc) f0) (dx_tup (ax_cons (dx_of de_neg) ax_nil) (show 1 ≤ 1000 by decide)) (show (front ns).length + 1 ≤ 1000 by omega))
        (ax_cons (dx_cat (dx_front (dx_var rfl hc) f0) (dx_tup (ax_cons (dx_of de_str) ax_nil) (show 1 ≤ 1000 by decide)) (show (front ns).length + 1 ≤ 1000 by omega))
        (ax_cons (dx_cat (dx_front (dx_var rfl hc) f0) (dx_tup (ax_cons (dx_of de_big) ax_nil) (show 1 ≤ 1000 by decide)) (show (front ns).length + 1 ≤ 1000 by omega)) ax_nil)))) (show 11 + 4 ≤ 1000 by decide) fun L1 ws1 G1 s1 n1 d1 => ?_)
      dsimp only [gName]
      have s01 := s0.trans s1
      have sL1 := same_new (o := .lst ws1) n1
      have lw1 : ws1.length = 15 := dsLen d1
      refine ⟨.ref L1, rfl, .inl ⟨rfl, _, .inl (.inl upd_same)⟩, ?_⟩
      refine dx_cat (K := K) (σ := [some (.ref a0), some (.ref f), some (.int (0 + (i : Nat))), some v, some (.ref p), some (.ref L1), y6, y7, y8, y9, y10]) (H0 := J2) (dx_tup (ax_cons (dx_of de_non) ax_nil) (show 1 ≤ 1000 by decide)) (dx_tail (dx_var rfl hc)) (show 1 + ((cs ns).drop 1).length ≤ 1000 by rw [List.length_drop]; omega) _ _ (s01.trans sL1) fun r G2 s2 dr => ?_
      have eL2 := s2 _ _ (upd_same (H := G1) (a := L1) (o := .lst ws1))
      refine ⟨L1, _, _, rfl, rfl, eL2, (by rw [lw1]; decide), ?_⟩
      have sA : Same G1 (upd G2 L1 (.lst (ws1 ++ [r]))) := putS (sL1.trans s2) n1
      have eA : (upd G2 L1 (.lst (ws1 ++ [r]))) L1 = some (.lst (ws1 ++ [r])) := upd_same
      have dA : DpAll K (upd G2 L1 (.lst (ws1 ++ [r]))) (ws1 ++ [r]) (oddsA ns ++ oddsB ns ++ [oddC ns]) := by
        refine dsApp (dsKeep sA d1) (.cons ?_ .nil)
        cases dr with
        | tup ht hes =>
          refine .tup (tupT (ts_lst eL2) ht) (flat_up (fun e he => ?_) hes)
          rcases List.mem_append.mp he with he | he
          · exact .inl (List.mem_singleton.mp he)
          · obtain ⟨m, _, rfl⟩ := List.mem_map.mp (List.mem_of_mem_drop he)
            exact .inr ⟨_, rfl⟩
      have sB := s01.trans sA
      show tSeq _ _ _ _ (upd G2 L1 (.lst (ws1 ++ [r])))
      generalize upd G2 L1 (.lst (ws1 ++ [r])) = GA at sA eA dA sB ⊢
      have fdA := fd2.same sB
      have tbA := tb2.ext sB
      have lwA : (ws1 ++ [r]).length = 16 := by rw [List.length_append, lw1]; rfl
      have fineA := fine_odds bn2 l5
      have lenA : (oddsA ns ++ oddsB ns ++ [oddC ns]).length = 16 := rfl
      generalize oddsA ns ++ oddsB ns ++ [oddC ns] = dsA at dA fineA lenA
      generalize ws1 ++ [r] = wsA at eA dA lwA
      have hcA := dKeep sB hc
      have pgA := pg2.same sB
      have fc := fine_counts bn2 l5
      have nc : nodesD (numD ns) ≤ 6 := by
        show 1 + nodesDs (cs ns) ≤ 6
        have : nodesDs (cs ns) ≤ ns.length := (tm_nats ns bn2).n
        omega
      have dc : (numD ns).depth ≤ 1 := by
        show PyData.depthAll (cs ns) + 1 ≤ 1
        have : PyData.depthAll (cs ns) ≤ 0 := (tm_nats ns bn2).d
        omega
      refine ⟨4, rfl, by decide, by decide, for_range (lo := 0) (n := (4 : Int).toNat) (fun j σ X => (∃ (y6 y7 : Option V) (L : Addr) (xs : List V) (ds : List PyData), σ = [some (.ref a0), some (.ref f), some (.int (0 + (i : Nat))), some v, some (.ref p), some (.ref L), y6, y7, y8, y9, y10] ∧ X L = some (.lst xs) ∧ DpAll K X xs ds ∧ ds.length = 16 + 2 * j ∧ ∀ d ∈ ds, Fine d) ∧
        Keep f GA X ∧ Fd f a ms X (2000 * i + 60 + pg.es.length + 120 * j)) ?_ ?_ ?_⟩
      · exact ⟨⟨y6, y7, L1, wsA, dsA, rfl, eA, dA, lenA, fineA⟩, Keep.refl f GA, fdA⟩
      · rintro j σ X hj ⟨⟨y6, y7, L, xs, ds, rfl, eL, dX, lX, fX⟩, kX, fdX⟩
        have hj : j < 4 := hj
        have hcX := dFd fdA kX hcA
        refine ⟨.ref f, rfl, .ref p, rfl, f, a, ms, _, .ref p, numD ns, rfl, fdX, by omega, hcX, fc.g, by omega, by omega, by decide, fun r1 d1 X1 dp1 g1 m1 h1 q1 fx1 => ?_⟩
        have eL1 := q1 _ _ (fd_ne fdX eL) eL
        refine ⟨.ref L, rfl, r1, rfl, .ref f, rfl, r1, rfl, f, a, ms, _, r1, d1, rfl, fx1, by omega, dp1, g1, by omega, by omega, by decide, fun r2 d2 X2 dp2 g2 m2 h2 q2 fx2 => ⟨(show 2 ≤ sizeLine by decide), fun R nR => ?_⟩⟩
        have eL2' := q2 _ _ (fd_ne fx1 eL1) eL1
        have sR := same_new (o := .lst [r1, r2]) nR
        have lxs := dsLen dX
        refine ⟨L, R, xs, [r1, r2], rfl, rfl, sR _ _ eL2', upd_same, Nat.le_trans (show xs.length + 2 ≤ 100 by omega) (by decide), fun O nO => ?_⟩
        have sO := same_new (o := .lst (xs ++ [r1, r2])) nO
        have sRO := sR.trans sO
        have kk := (q1.trans q2).trans (keep_same sRO)
        refine ⟨⟨_, _, O, xs ++ [r1, r2], ds ++ [d1, d2], rfl, upd_same, dsApp ?_ (.cons (dKeep sRO (dFd fx1 q2 dp1)) (.cons (dKeep sRO dp2) .nil)), by rw [List.length_append, lX]; rfl, fun d hd => ?_⟩, kX.trans kk, (fx2.same sRO).more (by omega)⟩
        · exact dsFd fdX kk dX
        · rcases List.mem_append.mp hd with hd | hd
          · exact fX d hd
          · simp only [List.mem_cons, List.not_mem_nil, or_false] at hd
            rcases hd with rfl | rfl
            · exact ⟨g1, by omega, by omega⟩
            · exact ⟨g2, by omega, by omega⟩
      · rintro σ X ⟨⟨y6, y7, L, xs, ds, rfl, eL, dX, lX, fX⟩, kX, fdX⟩
        have hcX := dFd fdA kX hcA
        have pgX := pgA.ts (ts_fd fdA kX)
        have tbX := tabs_fd tbA fdA kX
        have lxs := dsLen dX
        refine ⟨.ref p, rfl, (show 1 ≤ sizeLine by decide), fun R nR => ?_⟩
        have sR := same_new (o := .lst [.ref p]) nR
        refine ⟨.ref L, rfl, R, L, [.ref p], xs, rfl, rfl, upd_same, sR _ _ eL, Nat.le_trans (show 1 + xs.length ≤ 100 by omega) (by decide), fun O nO => ?_⟩
        have sO := same_new (o := .lst ([.ref p] ++ xs)) nO
        have sRO := sR.trans sO
        have eO : (upd (upd X R (.lst [.ref p])) O (.lst ([.ref p] ++ xs))) O = some (.lst ([.ref p] ++ xs)) := upd_same
        have hcO := dKeep sRO hcX
        have pgO := pgX.same sRO
        have tbO := tbX.ext sRO
        have fdO := fdX.same sRO
        have dO : DpAll K (upd (upd X R (.lst [.ref p])) O (.lst ([.ref p] ++ xs))) ([.ref p] ++ xs) ([numD ns] ++ ds) := dsApp (.cons hcO .nil) (dsKeep sRO dX)
        have fO : ∀ d ∈ [numD ns] ++ ds, Fine d := fun d hd => by
          rcases List.mem_append.mp hd with hd | hd
          · rw [List.mem_singleton.mp hd]
            exact fc
          · exact fX d hd
        generalize upd (upd X R (.lst [.ref p])) O (.lst ([.ref p] ++ xs)) = Y0 at eO hcO pgO tbO fdO dO ⊢
        generalize [V.ref p] ++ xs = os at eO dO
        generalize [numD ns] ++ ds = dos at dO fO
        refine ⟨O, rfl, ⟨_, .inl (.inl eO)⟩, fun D2 nD2 => ?_⟩
        refine lc_list (K := K) (a := O) (xs := os) (fun j Y => ExtN Y0 Y ∧ Tabs (TT1 T0) Y ∧ Y D2 = some (.lst [])) ⟨ext_same (same_new nD2), tbO.ext (same_new nD2), upd_same⟩ (fun j Y _ h => seqE h.1 (.inl (.inl eO))) ?_ ?_
        · rintro j x Y hx ⟨eY, tY, eD2⟩
          obtain ⟨d, hd, dp⟩ := dsAt dO j x hx
          refine ⟨rfl, ?_⟩
          refine ⟨v, rfl, x, rfl, v, x, pg, d, rfl, pgO.ts (ext_ts eY), ok1, nd, dpE eY dp, fO d (List.mem_of_getElem? hd), tY, fun X' e' t' => ⟨true, rfl, ?_⟩⟩
          exact iteF ⟨eY.trans e', t', ext_lst e' eD2⟩
        · rintro Y ⟨eY, tY, eD2⟩
          refine ⟨Nat.zero_le _, fun z2 nz2 => ⟨.list [], .list [], .lst (.inl (.inl (same_new nz2 _ _ eD2))) .nil, .lst (.inl (.inl upd_same)) .nil, rfl, rfl, _, rfl, ?_⟩⟩
          have sz := same_new (o := .lst []) nz2
          have eZ := eY.trans (ext_same sz)
          have tZ := tY.ext sz
          have pgZ := pgO.ts (ext_ts eZ)
          have hcZ := dpE eZ hcO
          have fdZ := fdO.ext eZ
          generalize upd Y z2 (.lst []) = Z at eZ tZ pgZ hcZ fdZ ⊢
          refine iteF ?_
          obtain ⟨zs, hz, hzs⟩ : ∃ zs, SqT K Z p zs ∧ DpAll K Z zs (ns.map fun n => PyData.int (n : Nat)) := by
            cases hcZ with
            | tup a b => exact ⟨_, a, b⟩
          obtain rfl := intsD hzs
          have bm : ∀ m ∈ ns, 1 ≤ m ∧ m ≤ 1000 := fun m hm => ⟨(bn m hm).1, by have := (bn m hm).2; omega⟩
          have sum : ∀ (l : List Nat), (∀ m ∈ l, m ≤ 30) → l.sum ≤ 30 * l.length := by
            intro l
            induction l with
            | nil => exact fun _ => Nat.le_refl _
            | cons a r ih =>
              intro h
              have := ih fun z hz => h z (List.mem_cons_of_mem _ hz)
              have := h a (List.mem_cons_self ..)
              rw [List.sum_cons, List.length_cons]
              omega
          have sm := sum ns bn2
          have sh := sh_stores (ks := pg.es.map (fun e : Ent => e.name)) (ms := ns) (fun k hk => by
            obtain ⟨e, he, rfl⟩ := List.mem_map.mp hk
            exact (ok1.2.1 e he).1) (by omega)
          refine ⟨.ref p, rfl, v, rfl, v, .ref p, pg, numD ns, rfl, pgZ, ok1, nd, hcZ, .inl ⟨ns, rfl, ln, bm, fun p5 ws5 G5 s5 np5 hp5 hS5 => ?_⟩⟩
          refine ⟨p5, .tuple ((allSt (pg.es.map (fun e : Ent => e.name)) ns).map dSt), rfl, .tup (.inl (.inl hp5)) hS5.dp, sh.ok, sh.nd, sh.dp, Nat.le_trans sh.ln size16, ?_⟩
          refine ⟨v, rfl, .ref p, rfl, v, .ref p, pg, ns, rfl, pgZ.same s5, ok1, ⟨p, rfl, tupS s5 hz⟩, ln, fun m hm => (bm m hm).2, fun p6 ws6 G6 s6 np6 hp6 hS6 => ?_⟩
          refine ⟨p6, .tuple ((allSt (pg.es.map (fun e : Ent => e.name)) ns).map dSt), rfl, .tup (.inl (.inl hp6)) hS6.dp, sh.ok, sh.nd, sh.dp, Nat.le_trans sh.ln size16, rfl, ?_⟩
          refine ⟨false, by rw [decide_eq_true rfl]; rfl, iteF ?_⟩
          have s56 := s5.trans s6
          have yes : numsB pg.es.length (numD ns) = true := by
            rw [← ln]
            exact numsB_num fun m hm => (bm m hm).1
          refine ⟨.ref p, rfl, v, rfl, v, .ref p, pg, numD ns, rfl, pgZ.same s56, ok1, dKeep s56 hcZ, fun G7 s7 => ⟨_, true, rfl, rfl, false, by rw [yes]; rfl, iteF ?_⟩⟩
          have s57 := s56.trans s7
          exact ⟨⟨_, _, _, _, _, _, _, _, _, rfl⟩, (fdZ.same s57).more (by show _ ≤ 2000 * (i + 1); have : 4 = (4 : Int).toNat := rfl; omega), tZ.ext s57⟩
    · rintro σ J ⟨⟨y2, y3, y4, y5, y6, y7, y8, y9, y10, rfl⟩, fdJ, tbJ⟩
      have okL : gLone.ok := by
        have nb : ("b" : Str) ∈ names ∧ ("c" : Str) ∈ names := by decide +kernel
        refine ⟨by decide, fun e he => ?_, names_fit _ nb.2⟩
        simp only [gLone, List.mem_cons, List.not_mem_nil, or_false] at he
        rcases he with rfl | rfl
        · exact ⟨names_fit _ nb.1, by decide, by decide, fun s hs => by cases hs⟩
        · exact ⟨names_fit _ nb.2, by decide, by decide, fun s hs => by cases hs⟩
      have ndL : (gLone.es.map (fun e : Ent => e.name)).Nodup := by decide +kernel
      have shL := sh_stores (ks := gLone.es.map (fun e : Ent => e.name)) (ms := [11, 1]) (fun k hk => by
        obtain ⟨e, he, rfl⟩ := List.mem_map.mp hk
        exact (okL.2.1 e he).1) (by decide)
      dsimp only
      refine seq_asg (page2e (K := K) (fun v J1 s1 h1 => ?_))
      have h1 : PgAt K J1 v gLone := h1
      dsimp only [gName]
      refine seq_asg (de_tup (K := K) (da_cons (de_tup (da_cons de_str (da_cons de_int da_nil)) (show 2 ≤ 1000 by decide)) (da_cons (de_tup (da_cons de_str (da_cons de_int da_nil)) (show 2 ≤ 1000 by decide)) (da_cons (de_tup (da_cons de_str (da_cons de_int da_nil)) (show 2 ≤ 1000 by decide)) (da_cons (de_tup (da_cons de_str (da_cons de_int da_nil)) (show 2 ≤ 1000 by decide)) (da_cons (de_tup (da_cons de_str (da_cons de_int da_nil)) (show 2 ≤ 1000 by decide)) (da_cons (de_tup (da_cons de_str (da_cons de_int da_nil)) (show 2 ≤ 1000 by decide)) (da_cons (de_tup (da_cons de_str (da_cons de_int da_nil)) (show 2 ≤ 1000 by decide)) (da_cons (de_tup (da_cons de_str (da_cons de_int da_nil)) (show 2 ≤ 1000 by decide)) (da_cons (de_tup (da_cons de_str (da_cons de_int da_nil)) (show 2 ≤ 1000 by decide)) (da_cons (de_tup (da_cons de_str (da_cons de_int da_nil)) (show 2 ≤ 1000 by decide)) da_nil)))))))))) (show 10 ≤ 1000 by decide) _ _ _ fun v2 J2 s2 h2 => ?_)
      dsimp only [gName]
      have pg2 := h1.same s2
      refine ⟨v, rfl, (show 2 ≤ sizeLine by decide), fun t nt => ?_⟩
      have st := same_new (o := .tup [.int 11, .int 1]) nt
      refine ⟨v, .ref t, gLone, numD [11, 1], rfl, pg2.same st, okL, ndL, .tup (.inl (.inl upd_same)) (.cons (.int 11) (.cons (.int 1) .nil)), .inl ⟨[11, 1], rfl, rfl, by decide, fun p5 ws5 G5 s5 np5 hp5 hS5 => ?_⟩⟩
      refine ⟨p5, .tuple ((allSt (gLone.es.map (fun e : Ent => e.name)) [11, 1]).map dSt), rfl, .tup (.inl (.inl hp5)) hS5.dp, shL.ok, shL.nd, shL.dp, Nat.le_trans shL.ln size16, ?_⟩
      refine dx_cat (K := K) (σ := [some (.ref a0), some (.ref f), y2, y3, y4, y5, y6, y7, some v, some v2, y10]) (H0 := J2) (dx_var rfl h2) (dx_of (de_tup (da_cons (de_tup (da_cons de_str (da_cons de_int da_nil)) (show 2 ≤ 1000 by decide)) (da_cons (de_tup (da_cons de_str (da_cons de_int da_nil)) (show 2 ≤ 1000 by decide)) da_nil)) (show 2 ≤ 1000 by decide))) (show 10 + 2 ≤ 1000 by decide) _ _ (st.trans s5) fun r G6 s6 d6 => ?_
      cases d6 with
      | tup ht hes =>
        refine ⟨_, .tuple ((allSt (gLone.es.map (fun e : Ent => e.name)) [11, 1]).map dSt), rfl, .tup ht hes, shL.ok, shL.nd, shL.dp, Nat.le_trans shL.ln size16, rfl, ?_⟩
        rw [decide_eq_true rfl]
        exact q _
end
end Kn


/-! Kn: the end of a law that makes lambdas, its promise a Vow. -/
namespace Kn
open PySem PySem.Spec PyProof.Rows L2 LamX
section
variable {P : Program} {w : World} {K : PySem.W.Frag} {mg mb : Str → Option Value} {k : Nat} {fa a : Addr} {fd : FuncData} {x : Str} {sp : Sp} {s : Shared} {vs : List Value} {ns : List Int} {cs : List (Addr × Addr)}
theorem end_vowT (kin : K.In s.heap) (nsm : s.heap.Ns mainGlobals mg) (nsb : s.heap.Ns builtinsNs mb) (boot : ∀ y : Str, y ≠ "__name__" → mb y = bootBuiltins y) (lim : s.heap.NoLimit) (gens : s.gens = #[])
    (empty : ∀ q ∈ cs, s.heap.get? q.2 = some { cls := .none, data := .fields #[] }) (aside : ∀ q ∈ cs, K.lookup q.2 = none) (codes : ∀ q ∈ cs, PySem.W.CodeHd s.heap q.1 q.2)
    (module : ∃ (bm : Addr) (ob : Obj), mg "__builtins__" = some (.ref bm) ∧ bm ≠ builtinsNs ∧ s.heap.get? bm = some ob ∧ ob.cls = .type "module" ∧ ob.dict = some builtinsNs ∧ ob.data = .plain)
    (at_ : s.heap.get? a = some { cls := .type "list", data := .seq vs.toArray }) (iv : IntsAre vs ns) (short : ns.length ≤ sizeLine) (room : Room k callerA)
    (F : ∀ base : Heap, K.In base → base.Ns mainGlobals mg → (∀ q ∈ cs, TabB base mg q.1 q.2) → Vow P w K mg base k fa fd [x] sp) (bound : ∀ (z : Shared) (u : Value), BindsTo z fd ⟨[u], []⟩ [(x, u)])
    (told : ∀ H : Hp, (∀ q ∈ cs, H q.2 = some (.tbl #[])) → SqL K H a (ns.map V.int) → sp [.ref a] H (fun v _ => v = .bl true) E0) :
    codeAny (model P w) callerA (.call (.ref fa) ⟨[.ref a], []⟩) (fun r s' => r = .ok (.ret (.bool true)) ∧ OldK s.heap s'.heap ∧ s'.os = s.os ∧ AllBare s'.gens) s := by
  have many : ns.length = vs.length := by rw [iv.length]
  have rv : Vals (ns.map V.int) vs := vals_ints iv
  have tabAt : ∀ b : Addr, b ∈ cs.map (·.2) → s.heap.get? b = some { cls := .none, data := .fields #[] } := by
    intro b hb
    obtain ⟨q, hq, rfl⟩ := List.mem_map.mp hb
    exact empty q hq
  have apart : a ∉ cs.map (·.2) := by
    intro z
    have y := tabAt a z
    rw [at_] at y
    have y2 : Data.seq vs.toArray _ = Data.fields #[] := congrArg Obj.data (Option.some.inj y)
    cases y2
  have inT : ∀ q ∈ cs, q.2 ∈ cs.map (·.2) := fun q hq => List.mem_map.mpr ⟨q, hq, rfl⟩
  have main : ∀ H : Hp, (∀ q ∈ cs, H q.2 = some (.tbl #[])) → (∀ b, H b = none ∨ b ∈ cs.map (·.2) ∨ ∃ o xs, H b = some (.frz o (.lst xs))) → SqL K H a (ns.map V.int) → HOk P w H s.heap → (∀ b u, H b = some u → b = a ∨ b ∈ cs.map (·.2)) → ((∃ u, H a = some u) → K.lookup a = none) →
      codeAny (model P w) callerA (.call (.ref fa) ⟨[.ref a], []⟩) (fun r s' => r = .ok (.ret (.bool true)) ∧ OldK s.heap s'.heap ∧ s'.os = s.os ∧ AllBare s'.gens) s := by
    intro H tbl only lst ok alone notK
    have free : ∀ b o, s.heap.get? b = some o → (∀ us m, o.data ≠ .seq us m) → o.data ≠ .fields #[] → H b = none := by
      intro b o y n1 n2
      cases q : H b with
      | none => rfl
      | some u =>
        rcases alone b u q with rfl | hb
        · rw [at_] at y
          cases y
          exact absurd rfl (n1 _ _)
        · rw [tabAt b hb] at y
          cases y
          exact absurd rfl n2
    have dictF : ∀ {b : Addr} {o : Obj} {es : Array DictEntry} {ep : Nat}, s.heap.get? b = some o → o.data = .dict es ep → H b = none := by
      intro b o es ep y dd
      refine free b o y (fun us m z => ?_) (fun z => ?_) <;> (rw [dd] at z; cases z)
    have nsk : ∀ {b : Addr} {m : Str → Option Value}, s.heap.Ns b m → (hidT s.heap H).Ns b m := by
      rintro b m ⟨o, es, ep, y, dd, r⟩
      exact ⟨o, es, ep, hidT_get y (dictF y dd), dd, r⟩
    have kinB : K.In (hidT s.heap H) := by
      intro b o y
      refine hidT_get (kin b o y) ?_
      cases q : H b with
      | none => rfl
      | some u =>
        rcases alone b u q with rfl | hb
        · rw [notK ⟨u, q⟩] at y
          cases y
        · obtain ⟨t, ht, rfl⟩ := List.mem_map.mp hb
          rw [aside t ht] at y
          cases y
    obtain ⟨mc, c1, c2⟩ := lim
    have md : Mod K mg (hidT s.heap H) := ⟨kinB, nsk nsm, ⟨mb, nsk nsb, boot⟩, mc, nsk c1, c2⟩
    have TB : ∀ q ∈ cs, TabB (hidT s.heap H) mg q.1 q.2 := by
      intro q hq
      have eq_ := empty q hq
      refine ⟨?_, ?_, ?_⟩
      · obtain ⟨o, us, file, tf, flags, tg, inF, text, tt, y1, yc, y2, y3, rest⟩ := codes q hq
        refine ⟨o, us, file, tf, flags, tg, inF, text, tt, hidT_get y1 (free _ _ y1 (fun _ _ z => ?_) (fun z => ?_)), yc, y2, y3, rest⟩
        · rw [y2] at z
          cases z
        · rw [y2] at z
          cases z
          simp at y3
      · obtain ⟨bm, ob, b1, b2, b3, b4, b5, b6⟩ := module
        have n1 : bm ≠ mainGlobals := by
          rintro rfl
          obtain ⟨o, es, ep, y, dd, _⟩ := nsm
          rw [y] at b3
          cases b3
          rw [dd] at b6
          cases b6
        have n2 : bm ≠ q.2 := by
          intro z
          rw [z, eq_] at b3
          cases b3
          cases b6
        refine ⟨bm, ob, b1, b2, n1, n2, hidT_get b3 (free _ _ b3 (fun _ _ z => ?_) (fun z => ?_)), b4, b5, b6⟩
        · rw [b6] at z
          cases z
        · rw [b6] at z
          cases z
      · intro z
        obtain ⟨o, es, ep, y, dd, _⟩ := nsm
        rw [z, eq_] at y
        cases y
        cases dd
    have noL : ∀ {b : Addr}, b ∉ ([] : List Addr) := fun h => by cases h
    have z : Env0 P w K mg (hidT s.heap H) callerA [] s H := ⟨rfl, md, fun b o y => of_hidT y, Nat.le_of_eq (hidT_size _ _), trivial, fun b h => absurd h noL, ok, .of_eq gens⟩
    have run := (F _ kinB (nsk nsm) TB).goes callerA [] s H ⟨[.ref a], []⟩ [.ref a] [.ref a] _ _ rfl room z (bound s (.ref a)) (.cons rfl .nil) (told H tbl lst)
    refine codeAny_mono run ?_
    intro r s2 out
    cases r with
    | error _ => exact False.elim out
    | ok fl =>
      cases fl with
      | next => exact False.elim out
      | brk => exact False.elim out
      | cont => exact False.elim out
      | ret u =>
        obtain ⟨v, H2, os, bare, un, ok2, r2, rfl⟩ := out
        obtain rfl : u = Value.bool true := r2
        have old : ∀ b o, b ∉ cs.map (·.2) → s.heap.get? b = some o → s2.heap.get? b = some o := by
          intro b o nb y
          cases q : H b with
          | none => exact un.keep b o y q noL noL
          | some u =>
            rcases only b with n | n | ⟨ob, xs, n⟩
            · rw [q] at n
              cases n
            · exact absurd n nb
            · obtain ⟨y1, _⟩ := ok b _ n
              obtain ⟨y2, _⟩ := ok2 b _ (un.frzs b ob _ n)
              rw [y] at y1
              cases y1
              exact y2
        have more : ∀ q ∈ cs, ∃ us : Array Value, s2.heap.get? q.2 = some { cls := .none, data := .fields us } := by
          intro q hq
          obtain ⟨us, y⟩ := un.tbls q.2 #[] (tbl q hq)
          exact ⟨_, ok2 q.2 _ y⟩
        refine ⟨rfl, ⟨fun b o y => ?_, fun b o y => ?_⟩, os, bare⟩
        · by_cases hb : b ∈ cs.map (·.2)
          · obtain ⟨q, hq, rfl⟩ := List.mem_map.mp hb
            obtain ⟨us, hus⟩ := more q hq
            rw [empty q hq] at y
            cases y
            exact .inr (.inl ⟨((codes q hq).tab (empty q hq)).isCodeTable, rfl, #[], us, rfl, by rw [Array.empty_append]; exact hus⟩)
          · exact .inl (old b o hb y)
        · by_cases hb : b ∈ cs.map (·.2)
          · obtain ⟨q, hq, rfl⟩ := List.mem_map.mp hb
            obtain ⟨us, hus⟩ := more q hq
            exact ⟨_, hus⟩
          · exact ⟨o, old b o hb y⟩
  cases hk : K.lookup a with
  | some o =>
    have y := kin a o hk
    rw [at_] at y
    cases y
    refine main (fun b => if b ∈ cs.map (·.2) then some (.tbl #[]) else none) (fun q hq => if_pos (inT q hq)) (fun b => ?_) (.inr ⟨_, vs.toArray, _, hk, rfl, rfl, rfl, by rw [List.size_toArray, ← many]; exact short, by simpa using rv⟩) (fun b u q => ?_) (fun b u q => ?_) ?_
    · by_cases hb : b ∈ cs.map (·.2)
      · exact .inr (.inl hb)
      · exact .inl (if_neg hb)
    · by_cases hb : b ∈ cs.map (·.2)
      · cases (if_pos hb).symm.trans q
        exact tabAt b hb
      · cases (if_neg hb).symm.trans q
    · by_cases hb : b ∈ cs.map (·.2)
      · exact .inr hb
      · cases (if_neg hb).symm.trans q
    · rintro ⟨u, q⟩
      cases (if_neg apart).symm.trans q
  | none =>
    refine main (fun b => if b = a then some (.frz { cls := .type "list", data := .seq vs.toArray } (.lst (ns.map V.int))) else if b ∈ cs.map (·.2) then some (.tbl #[]) else none) (fun q hq => ?_) (fun b => ?_) (.inl (.inr ⟨{ cls := .type "list", data := .seq vs.toArray }, if_pos rfl⟩)) (fun b u q => ?_) (fun b u q => ?_) (fun _ => hk)
    · have ne : ¬ q.2 = a := fun z => apart (z ▸ inT q hq)
      exact (if_neg ne).trans (if_pos (inT q hq))
    · by_cases hb : b = a
      · exact .inr (.inr ⟨_, _, if_pos hb⟩)
      · by_cases h2 : b ∈ cs.map (·.2)
        · exact .inr (.inl h2)
        · exact .inl ((if_neg hb).trans (if_neg h2))
    · by_cases hb : b = a
      · subst hb
        cases (if_pos rfl).symm.trans q
        exact ⟨at_, by rw [List.length_map]; exact short, vs, _, rv, at_⟩
      · have q2 := (if_neg hb).symm.trans q
        by_cases h2 : b ∈ cs.map (·.2)
        · cases (if_pos h2).symm.trans q2
          exact tabAt b h2
        · cases (if_neg h2).symm.trans q2
    · by_cases hb : b = a
      · exact .inl hb
      · by_cases h2 : b ∈ cs.map (·.2)
        · exact .inr h2
        · cases ((if_neg hb).trans (if_neg h2)).symm.trans q
/-- T: whose defs make lambdas, by code object, table and name -/
theorem walk_vowT {l : PySem.W.OpenLaw} {q : Program} {loose : List Str} {XP : (Str → Option Value) → Heap → Prop} {YP : World → Heap → Prop} {d : DefRec} {K : Params → PySem.W.Frag} {sp : List (Addr × Addr) → PySem.W.Frag → Sp}
    (most : l.most = some 63) (dflt : d.params.defaults = []) (room : Room k callerA) (hY : ∀ (w : World) (h : Heap), YP w h → (K w.params).In h)
    (F : ∀ (w : World) (loose' : List Str) (mean : ExcName → Option Value) (mg mb : Str → Option Value) (fa : Addr) (h : Heap), Top q loose' mean mg mb h → (K w.params).In h → h.Ns mainGlobals mg → mg d.name = some (.ref fa) →
      ∃ (fd : FuncData) (cs : List (Addr × Addr)), (∀ (z : Shared) (u : Value), BindsTo z fd ⟨[u], []⟩ [(x, u)]) ∧ (∀ t ∈ cs, h.get? t.2 = some { cls := .none, data := .fields #[] }) ∧ (∀ t ∈ cs, (K w.params).lookup t.2 = none) ∧ (∀ t ∈ cs, PySem.W.CodeHd h t.1 t.2) ∧
        ∀ base : Heap, (K w.params).In base → base.Ns mainGlobals mg → (∀ t ∈ cs, TabB base mg t.1 t.2) → Vow l.prog w (K w.params) mg base k fa fd [x] (sp cs (K w.params)))
    (told : ∀ (cs : List (Addr × Addr)) (K : PySem.W.Frag) (H : Hp) (a : Addr) (ns : List Int), ns.length ≤ 63 → (∀ t ∈ cs, H t.2 = some (.tbl #[])) → SqL K H a (ns.map V.int) → sp cs K [.ref a] H (fun v _ => v = .bl true) E0) :
    PySem.W.WalkO q loose XP YP l.row.toRowW d [] (fun f vs => PySem.call f vs) := by
  refine Att.attach_call most dflt ?_
  intro w s0 s1 mg mb fa o pm cd doc a vs ns G Y ho hd hcd hmg hobj iv short gens
  have kin := hY w _ Y
  obtain ⟨fd, cs, hb, h1, h2, h3, hF⟩ := F w _ _ mg mb fa _ G.T kin G.T.g hmg
  exact end_vowT kin G.T.g G.T.b G.T.builtins G.T.nolimit gens h1 h2 h3 G.T.bmain hobj iv (Nat.le_trans short (by decide)) room hF hb (fun H ht hS => told _ _ H a ns short ht hS)
end
end Kn


namespace Kn
open PySem PySem.Spec PyProof.Rows L2 LamX
/-! ### what the top has written -/
def At (K : PySem.W.Frag) (x : Str) (i : Nat) : Prop := ∃ (f : Addr) (oc : Value) (od an : Option Addr) (sl : Array (Option Value)) (kV dc pm cd ct : Value),
  PySem.W.nsIn K mainGlobals x = some (some (.ref f)) ∧ K.lookup f = some ⟨oc, od, .func (PySem.W.fnOf x x (defArgs (topS i)) (defBody (topS i)) (defScope (topS i)) .none kV dc pm an cd ct), sl⟩ ∧ PySem.W.codeIn K cd x = true ∧ PySem.W.keepIn K (.ref f) = true
theorem at_mk {K : PySem.W.Frag} {x : Str} {i : Nat} {f : Addr} {oc kV dc pm cd ct : Value} {od an : Option Addr} {sl : Array (Option Value)} (a : PySem.W.nsIn K mainGlobals x = some (some (.ref f)))
    (l : K.lookup f = some ⟨oc, od, .func (PySem.W.fnOf x x (defArgs (topS i)) (defBody (topS i)) (defScope (topS i)) .none kV dc pm an cd ct), sl⟩) (c : PySem.W.codeIn K cd x = true) (k : PySem.W.keepIn K (.ref f) = true) : At K x i :=
  ⟨f, oc, od, an, sl, kV, dc, pm, cd, ct, a, l, c, k⟩
/-- a def that makes lambdas: its code object and its table -/
structure AtC (K : PySem.W.Frag) (x : Str) (i : Nat) (c T0 : Addr) : Prop where
  ex : ∃ (f : Addr) (oc : Value) (od an : Option Addr) (sl : Array (Option Value)) (kV dc pm ct : Value),
    PySem.W.nsIn K mainGlobals x = some (some (.ref f)) ∧ K.lookup f = some ⟨oc, od, .func (PySem.W.fnOf x x (defArgs (topS i)) (defBody (topS i)) (defScope (topS i)) .none kV dc pm an (.ref c) ct), sl⟩ ∧ PySem.W.codeIn K (.ref c) x = true ∧ PySem.W.keepIn K (.ref f) = true
  tab : PySem.W.tabIn K x = some (c, T0)
theorem atC_mk {K : PySem.W.Frag} {x : Str} {i : Nat} {f c T0 : Addr} {oc kV dc pm ct oc2 : Value} {od an od2 : Option Addr} {sl sl2 : Array (Option Value)} {us : Array Value} (a : PySem.W.nsIn K mainGlobals x = some (some (.ref f)))
    (l : K.lookup f = some ⟨oc, od, .func (PySem.W.fnOf x x (defArgs (topS i)) (defBody (topS i)) (defScope (topS i)) .none kV dc pm an (.ref c) ct), sl⟩) (e : PySem.W.codeIn K (.ref c) x = true) (k : PySem.W.keepIn K (.ref f) = true)
    (l2 : K.lookup c = some ⟨oc2, od2, .fields us, sl2⟩) (v : us[11]? = some (.ref T0)) : AtC K x i c T0 := by
  refine ⟨⟨f, oc, od, an, sl, kV, dc, pm, ct, a, l, e, k⟩, ?_⟩
  unfold PySem.W.tabIn
  rw [a]
  dsimp only
  rw [l]
  dsimp only [PySem.W.fnOf]
  rw [l2]
  dsimp only
  rw [v]
/-- an error class, asked of from D -/
theorem asked_mk {K : PySem.W.Frag} {mg : Str → Option Value} {h : Heap} {x : Str} {C D : Addr} {b : Bool} (X : K.In h) (G : h.Ns mainGlobals mg) (a : PySem.W.nsIn K mainGlobals x = some (some (.ref C))) (c : PySem.W.isClsIn K C = true) (t : PySem.W.typeIn K (.ref C) = some (.type "type"))
    (s : PySem.W.subIn K (.ref D) (.ref C) = some b) (n : (Value.ref D == Value.ref C) = false ∨ b = true) : Asked K mg x D b := by
  refine ⟨C, PySem.W.mg_of X G a, ?_⟩
  unfold PySem.W.kitOne
  by_cases q : (Value.ref D == Value.ref C) = true
  · rw [if_pos q]
    rcases n with n | n
    · rw [n] at q
      cases q
    · rw [n]
  · rw [if_neg q]
    have c2 : (PySem.W.clsIn K C).isSome = true := c
    have e : ((PySem.W.clsIn K C).isSome && PySem.W.typeIn K (.ref C) == some (.type "type")) = true := by
      rw [c2, t]
      rfl
    show (if ((PySem.W.clsIn K C).isSome && PySem.W.typeIn K (.ref C) == some (.type "type")) = true then PySem.W.subIn K (.ref D) (.ref C) else none) = some b
    rw [if_pos e]
    exact s
theorem tab_out {K : PySem.W.Frag} {h : Heap} {T0 : Addr} (X : K.In h) (n : PySem.W.noTabs K = true) (t : h.get? T0 = some { cls := .none, data := .fields #[] }) : K.lookup T0 = none := by
  cases e : K.lookup T0 with
  | none => rfl
  | some o =>
    have y := X _ _ e
    rw [t] at y
    cases y
    have z := List.all_eq_true.mp n _ (PySem.W.mem_of_lookupK e)
    exact absurd (show false = true from z) Bool.false_ne_true
section
variable {K : PySem.W.Frag} {mg : Str → Option Value} {h : Heap} {x y : Str} {i : Nat} {ps : List Str}
theorem def_of (X : K.In h) (G : h.Ns mainGlobals mg) (t : At K x i)
    (b : ∀ (kV doc pm : Value) (an : Option Addr) (cdv ct : Value) (us : List Value), us.length = ps.length → bindArgs (PySem.W.fnOf x x (defArgs (topS i)) (defBody (topS i)) (defScope (topS i)) .none kV doc pm an cdv ct) ⟨us, []⟩ = pure (ps.zip us)) :
    ∃ f fd, Def K mg x i ps f fd := by
  obtain ⟨f, oc, od, an, sl, kV, dc, pm, cd, ct, a, l, c, k⟩ := t
  have F := fun_mk (st := topS i) l c k
  exact ⟨f, _, F, F.binds b, PySem.W.mg_of X G a⟩
theorem kw_of16 (X : K.In h) (G : h.Ns mainGlobals mg) (t : At K x i)
    (b : ∀ (kV doc pm : Value) (an : Option Addr) (cdv ct : Value) (us : List Value), us.length = (["web", "thing"] : List Str).length → bindArgs (PySem.W.fnOf x x (defArgs (topS i)) (defBody (topS i)) (defScope (topS i)) .none kV doc pm an cdv ct) ⟨us, []⟩ = pure ((["web", "thing"] : List Str).zip us))
    (b1 : ∀ (kV doc pm : Value) (an : Option Addr) (cdv ct u v : Value), bindArgs (PySem.W.fnOf x x (defArgs (topS i)) (defBody (topS i)) (defScope (topS i)) .none kV doc pm an cdv ct) ⟨[], [(("thing" : Str), u), (("web" : Str), v)]⟩ = pure [(("web" : Str), v), (("thing" : Str), u)]) :
    ∃ f fd, Def K mg x i ["web", "thing"] f fd ∧ ∀ (s : Shared) (u v : Value), BindsTo s fd ⟨[], [(("thing" : Str), u), (("web" : Str), v)]⟩ [(("web" : Str), v), (("thing" : Str), u)] := by
  obtain ⟨f, oc, od, an, sl, kV, dc, pm, cd, ct, a, l, c, k⟩ := t
  have F := fun_mk (st := topS i) l c k
  exact ⟨f, _, ⟨F, F.binds b, PySem.W.mg_of X G a⟩, fun s u v => .of_eq (b1 _ _ _ _ _ _ u v)⟩
theorem kw_of20 (X : K.In h) (G : h.Ns mainGlobals mg) (t : At K x i)
    (b : ∀ (kV doc pm : Value) (an : Option Addr) (cdv ct : Value) (us : List Value), us.length = (["web", "numbers"] : List Str).length → bindArgs (PySem.W.fnOf x x (defArgs (topS i)) (defBody (topS i)) (defScope (topS i)) .none kV doc pm an cdv ct) ⟨us, []⟩ = pure ((["web", "numbers"] : List Str).zip us))
    (b1 : ∀ (kV doc pm : Value) (an : Option Addr) (cdv ct u v : Value), bindArgs (PySem.W.fnOf x x (defArgs (topS i)) (defBody (topS i)) (defScope (topS i)) .none kV doc pm an cdv ct) ⟨[], [(("numbers" : Str), u), (("web" : Str), v)]⟩ = pure [(("web" : Str), v), (("numbers" : Str), u)]) :
    ∃ f fd, Def K mg x i ["web", "numbers"] f fd ∧ ∀ (s : Shared) (u v : Value), BindsTo s fd ⟨[], [(("numbers" : Str), u), (("web" : Str), v)]⟩ [(("web" : Str), v), (("numbers" : Str), u)] := by
  obtain ⟨f, oc, od, an, sl, kV, dc, pm, cd, ct, a, l, c, k⟩ := t
  have F := fun_mk (st := topS i) l c k
  exact ⟨f, _, ⟨F, F.binds b, PySem.W.mg_of X G a⟩, fun s u v => .of_eq (b1 _ _ _ _ _ _ u v)⟩
end
section
variable {K : PySem.W.Frag} {mg mb : Str → Option Value} {h : Heap} {l : PySem.W.OpenLaw} {w : World} {fa c T0 D CL gI : Addr} {fdI : FuncData} {d : DefRec} {q : Program} {loose : List Str} {mean : ExcName → Option Value}
theorem all_mk (T : Top q loose mean mg mb h) (X : K.In h) (G : h.Ns mainGlobals mg) (hfa : mg "law" = some (.ref fa)) (find : (recsOf q).find? (fun e => e.name == ("_law_is_right" : Str)) = some d) (nt : PySem.W.noTabs K = true)
    (EM : ErrM K mg D gI fdI) (mL : mg "LetterError" = some (.ref CL)) (ex : PySem.W.exmOne K (.ref D) (.ref CL) = some true)
    (t12 : At K "is_integer" 12) (t13 : At K "is_positive" 13) (t15 : At K "names_of" 15) (t16 : At K "are_numbers" 16) (t17 : At K "check_numbers" 17) (t18 : At K "number_of" 18) (t19 : At K "stores_of_kind" 19) (t20 : At K "stores_of" 20) (t22 : At K "_law_start" 22) (t23 : At K "_law_draw" 23) (t24 : At K "_law_any" 24) (t25 : At K "_law_labels" 25) (t26 : At K "_law_page" 26) (t27 : At K "_law_strange" 27) (t28 : At K "_law_bent" 28) (t29 : At K "_law_refusal" 29) (t30 : At K "_law_said" 30) (t31 : At K "_law_use" 31) (t32 : At K "_law_counts" 32) (t33 : At K "_law_are_counts" 33) (t34 : At K "_law_stores" 34) (t35 : AtC K "_law_is_right" 35 c T0) (t36 : At K "law" 36) 
    (z1 : PySem.W.nsIn K mainGlobals "len" = some none) (z2 : PySem.W.nsIn K mainGlobals "int" = some none) (z3 : PySem.W.nsIn K mainGlobals "range" = some none) (z4 : PySem.W.nsIn K mainGlobals "sorted" = some none) (z5 : PySem.W.nsIn K mainGlobals "tuple" = some none) (z6 : PySem.W.nsIn K mainGlobals "isinstance" = some none) (z7 : PySem.W.nsIn K mainGlobals "repr" = some none) (z8 : PySem.W.nsIn K mainGlobals "ValueError" = some none) (z9 : PySem.W.nsIn K mainGlobals "bool" = some none) (z10 : PySem.W.nsIn K mainGlobals "str" = some none) (z11 : PySem.W.nsIn K mainGlobals "all" = some none) (z12 : PySem.W.nsIn K mainGlobals "list" = some none) (z13 : PySem.W.nsIn K mainGlobals "zip" = some none) (z14 : PySem.W.nsIn K mainGlobals "sum" = some none) :
    ∃ (fd : FuncData) (cs : List (Addr × Addr)), (∀ (s : Shared) (u : Value), BindsTo s fd ⟨[u], []⟩ [("_law_script", u)]) ∧ (∀ t ∈ cs, h.get? t.2 = some { cls := .none, data := .fields #[] }) ∧ (∀ t ∈ cs, K.lookup t.2 = none) ∧ (∀ t ∈ cs, PySem.W.CodeHd h t.1 t.2) ∧
      ∀ base : Heap, K.In base → base.Ns mainGlobals mg → (∀ t ∈ cs, TabB base mg t.1 t.2) → Vow l.prog w K mg base 10 fa fd ["_law_script"] (spLaw K (cs.map fun t => (t.2, qRt))) := by
  obtain ⟨f12, d12, D12⟩ := def_of (mg := mg) (ps := ["thing"]) X G t12 (fun _ _ _ _ _ _ us hl => match us, hl with | [_], _ => rfl)
  obtain ⟨f13, d13, D13⟩ := def_of (mg := mg) (ps := ["thing"]) X G t13 (fun _ _ _ _ _ _ us hl => match us, hl with | [_], _ => rfl)
  obtain ⟨f15, d15, D15⟩ := def_of (mg := mg) (ps := ["web"]) X G t15 (fun _ _ _ _ _ _ us hl => match us, hl with | [_], _ => rfl)
  obtain ⟨f16, d16, D16, k16⟩ := kw_of16 (mg := mg) X G t16 (fun _ _ _ _ _ _ us hl => match us, hl with | [_, _], _ => rfl) (fun _ _ _ _ _ _ _ _ => rfl)
  obtain ⟨f17, d17, D17⟩ := def_of (mg := mg) (ps := ["web", "thing"]) X G t17 (fun _ _ _ _ _ _ us hl => match us, hl with | [_, _], _ => rfl)
  obtain ⟨f18, d18, D18⟩ := def_of (mg := mg) (ps := ["web", "numbers", "kind"]) X G t18 (fun _ _ _ _ _ _ us hl => match us, hl with | [_, _, _], _ => rfl)
  obtain ⟨f19, d19, D19⟩ := def_of (mg := mg) (ps := ["web", "numbers", "kind"]) X G t19 (fun _ _ _ _ _ _ us hl => match us, hl with | [_, _, _], _ => rfl)
  obtain ⟨f20, d20, D20, k20⟩ := kw_of20 (mg := mg) X G t20 (fun _ _ _ _ _ _ us hl => match us, hl with | [_, _], _ => rfl) (fun _ _ _ _ _ _ _ _ => rfl)
  obtain ⟨f22, d22, D22⟩ := def_of (mg := mg) (ps := ["_law_script"]) X G t22 (fun _ _ _ _ _ _ us hl => match us, hl with | [_], _ => rfl)
  obtain ⟨f23, d23, D23⟩ := def_of (mg := mg) (ps := ["_law_feed", "_law_many"]) X G t23 (fun _ _ _ _ _ _ us hl => match us, hl with | [_, _], _ => rfl)
  obtain ⟨f24, d24, D24⟩ := def_of (mg := mg) (ps := ["_law_feed", "_law_some"]) X G t24 (fun _ _ _ _ _ _ us hl => match us, hl with | [_, _], _ => rfl)
  obtain ⟨f25, d25, D25⟩ := def_of (mg := mg) (ps := ["_law_feed", "_law_many"]) X G t25 (fun _ _ _ _ _ _ us hl => match us, hl with | [_, _], _ => rfl)
  obtain ⟨f26, d26, D26⟩ := def_of (mg := mg) (ps := ["_law_feed", "_law_most"]) X G t26 (fun _ _ _ _ _ _ us hl => match us, hl with | [_, _], _ => rfl)
  obtain ⟨f27, d27, D27⟩ := def_of (mg := mg) (ps := ["_law_feed"]) X G t27 (fun _ _ _ _ _ _ us hl => match us, hl with | [_], _ => rfl)
  obtain ⟨f28, d28, D28⟩ := def_of (mg := mg) (ps := ["_law_feed", "_law_item"]) X G t28 (fun _ _ _ _ _ _ us hl => match us, hl with | [_, _], _ => rfl)
  obtain ⟨f29, d29, D29⟩ := def_of (mg := mg) (ps := ["_law_error"]) X G t29 (fun _ _ _ _ _ _ us hl => match us, hl with | [_], _ => rfl)
  obtain ⟨f30, d30, D30⟩ := def_of (mg := mg) (ps := ["_law_ask"]) X G t30 (fun _ _ _ _ _ _ us hl => match us, hl with | [_], _ => rfl)
  obtain ⟨f31, d31, D31⟩ := def_of (mg := mg) (ps := ["_law_word"]) X G t31 (fun _ _ _ _ _ _ us hl => match us, hl with | [_], _ => rfl)
  obtain ⟨f32, d32, D32⟩ := def_of (mg := mg) (ps := ["_law_feed", "_law_page_here"]) X G t32 (fun _ _ _ _ _ _ us hl => match us, hl with | [_, _], _ => rfl)
  obtain ⟨f33, d33, D33⟩ := def_of (mg := mg) (ps := ["_law_page_here", "_law_item"]) X G t33 (fun _ _ _ _ _ _ us hl => match us, hl with | [_, _], _ => rfl)
  obtain ⟨f34, d34, D34⟩ := def_of (mg := mg) (ps := ["_law_page_here", "_law_counts_here"]) X G t34 (fun _ _ _ _ _ _ us hl => match us, hl with | [_, _], _ => rfl)
  have ml := PySem.W.mg_none_of X G z1
  have mi := PySem.W.mg_none_of X G z2
  have mr := PySem.W.mg_none_of X G z3
  have mo := PySem.W.mg_none_of X G z4
  have mt := PySem.W.mg_none_of X G z5
  have ms := PySem.W.mg_none_of X G z6
  have mp := PySem.W.mg_none_of X G z7
  have mv := PySem.W.mg_none_of X G z8
  have mb := PySem.W.mg_none_of X G z9
  have mz := PySem.W.mg_none_of X G z10
  have ma := PySem.W.mg_none_of X G z11
  have mli := PySem.W.mg_none_of X G z12
  have mzp := PySem.W.mg_none_of X G z13
  have msu := PySem.W.mg_none_of X G z14
  obtain ⟨code, tab⟩ := PySem.W.tab_of T X find t35.tab
  obtain ⟨fV, oc9, od9, an9, sl9, kV9, dc9, pm9, ct9, a9, l9, e9, kk9⟩ := t35.ex
  have FV : FunC K "_law_is_right" (topS 35) fV (PySem.W.fnOf "_law_is_right" "_law_is_right" (defArgs (topS 35)) (defBody (topS 35)) (defScope (topS 35)) .none kV9 dc9 pm9 an9 (.ref c) ct9) c := ⟨⟨oc9, od9, kV9, dc9, pm9, an9, ct9, sl9, rfl, l9, e9⟩, kk9⟩
  have BV : Binds K (PySem.W.fnOf "_law_is_right" "_law_is_right" (defArgs (topS 35)) (defBody (topS 35)) (defScope (topS 35)) .none kV9 dc9 pm9 an9 (.ref c) ct9) ["_law_page_here", "_law_item"] [] :=
    (fun_mk (st := topS 35) l9 e9 kk9).binds (fun _ _ _ _ _ _ us hl => match us, hl with | [_, _], _ => rfl)
  have mV := PySem.W.mg_of X G a9
  obtain ⟨fL, oc, od, an, sl, kV, dc, pm, cd, ct, aL, lL, cL, kL⟩ := t36
  cases hfa.symm.trans (PySem.W.mg_of X G aL)
  have FL := fun_mk (st := topS 36) lL cL kL
  refine ⟨PySem.W.fnOf "law" "law" (defArgs (topS 36)) (defBody (topS 36)) (defScope (topS 36)) .none kV dc pm an cd ct, [(c, T0)], fun s v => .of_eq rfl, ?_, ?_, ?_, fun base _ _ TB => ?_⟩
  · intro t ht
    rw [List.mem_singleton.mp ht]
    exact tab
  · intro t ht
    rw [List.mem_singleton.mp ht]
    exact tab_out X nt tab
  · intro t ht
    rw [List.mem_singleton.mp ht]
    exact code
  · have TB0 : TabB base mg c T0 := TB (c, T0) (List.mem_singleton.mpr rfl)
    have O12 : FnOk l.prog w K mg base CX0 1 f12 d12 ["thing"] (spB K intB) := ok_integer D12.F ms mi mb
    have O13 : FnOk l.prog w K mg base CX0 2 f13 d13 ["thing"] (spB K posB) := ok_positive D13.F D12 O12
    have O15 : FnOk l.prog w K mg base CX0 1 f15 d15 ["web"] (spNames K) := ok_names D15.F mt
    have O16 : FnOk l.prog w K mg base CX0 3 f16 d16 ["web", "thing"] (spAre K) := ok_are D16.F D13 O13 ms mt ml ma
    have O17 : FnOk l.prog w K mg base (L2.CX l.prog w) 4 f17 d17 ["web", "thing"] (spCk K D) := ok_ck D17.F D16 O16 EM
    have O18 : FnOk l.prog w K mg base CX0 2 f18 d18 ["web", "numbers", "kind"] (spNo K) := ok_no D18.F D15 O15
    have O19 : FnOk l.prog w K mg base CX0 3 f19 d19 ["web", "numbers", "kind"] (spOfK K) := ok_ofK D19.F D18 O18 mr
    have O20 : FnOk l.prog w K mg base (L2.CX l.prog w) 5 f20 d20 ["web", "numbers"] (spStores K D) := ok_stores D20.F D17 O17 D15 O15 D19 O19 mt
    have O22 : FnOk l.prog w K mg base CX0 1 f22 d22 ["_law_script"] (spStart K) := ok_start D22.F
    have O23 : FnOk l.prog w K mg base CX0 1 f23 d23 ["_law_feed", "_law_many"] spDraw := ok_draw D23.F mi ml
    have O24 : FnOk l.prog w K mg base CX0 2 f24 d24 ["_law_feed", "_law_some"] (spAny K) := ok_any D24.F D23.F D23.b D23.m mi ml
    have O26 : FnOk l.prog w K mg base CX0 4 f26 d26 ["_law_feed", "_law_most"] (spPg K) := ok_pg D26.F D25.F D25.b D25.m D24.F D24.b D24.m D23.F D23.b D23.m mi ml mr mo mt
    have O27 : FnOk l.prog w K mg base CX0 3 f27 d27 ["_law_feed"] (spStrange K) := ok_strange D27.F D24.F D24.b D24.m O24
    have O28 : FnOk l.prog w K mg base CX0 9 f28 d28 ["_law_feed", "_law_item"] (spBent K 5) := ok_bent D28.F D28.b D28.m D23.F D23.b D23.m O23 D24.F D24.b D24.m O24 D27.F D27.b D27.m O27 mi ml mt ms mz mli 5
    have O29 : Handed l.prog w K mg base 1 f29 d29 ["_law_error"] (spRef K D) := ok_ref D29.F EM.n ms mv
    have O31 : FnOk l.prog w K mg base CX0 1 f31 d31 ["_law_word"] spUse := ok_use D31.F
    have O32 : FnOk l.prog w K mg base CX0 3 f32 d32 ["_law_feed", "_law_page_here"] (spCnt K) := ok_cnt D32.F D24.F D24.b D24.m O24 mt
    have O33 : FnOk l.prog w K mg base CX0 1 f33 d33 ["_law_page_here", "_law_item"] (spAc K) := ok_ac D33.F ms mt ml mi mb
    have O34 : FnOk l.prog w K mg base CX0 1 f34 d34 ["_law_page_here", "_law_counts_here"] (spLs K) := ok_ls D34.F mzp mr mt
    have OV : Vow l.prog w K mg base 8 fV _ ["_law_page_here", "_law_item"] (spRt K (TT1 T0)) := ok_rt FV TB0 EM mL ex D29 O29 D30 D31 O31 D16 O16 D33 O33 D34 O34 D20 O20 mp msu
    exact ok_law FL D22 O22 D26 O26 D32 O32 D28 O28 kk9 BV mV OV D20 O20 k20 D34 O34 D16 O16 k16 mr mp ml mli
end
end Kn


namespace Kn
open PySem PySem.Spec PyProof.Rows L2 LamX
section
variable {K : PySem.W.Frag} {mg : Str → Option Value} {h : Heap}
theorem cls_mk {D N : Addr} {nm q : Str} {bs bm sub : List Value} {sn : List Str} {ab : Bool} {col : Option Bool} {dd : Option Addr} {k0 k1 k2 k3 k5 : Option Value} (l : K.lookup D = some (excClassObj nm q D N bs bm true sn sub ab col dd k0 k1 k2 k3 k5 "ValueError.__new__")) (r : PySem.HandSPX.refsVE bm = true) :
    ∃ nm q N bs bm sn sub ab col dd k0 k1 k2 k3 k5, K.lookup D = some (excClassObj nm q D N bs bm true sn sub ab col dd k0 k1 k2 k3 k5 "ValueError.__new__") ∧ PySem.HandSPX.refsVE bm = true := ⟨_, _, _, _, _, _, _, _, _, _, _, _, _, _, _, l, r⟩
theorem err_mk {D fI : Addr} {oc kV doc pm cdv ct : Value} {od an : Option Addr} {osl : Array (Option Value)} (X : K.In h) (G : h.Ns mainGlobals mg) (aD : PySem.W.nsIn K mainGlobals "NotUsable" = some (some (.ref D)))
    (cl : ∃ nm q N bs bm sn sub ab col dd k0 k1 k2 k3 k5, K.lookup D = some (excClassObj nm q D N bs bm true sn sub ab col dd k0 k1 k2 k3 k5 "ValueError.__new__") ∧ PySem.HandSPX.refsVE bm = true)
    (sa : PySem.W.findIn K (.ref D) "__setattr__" = some (some (.builtin "object.__setattr__"))) (ga : PySem.W.findIn K (.ref D) "__getattribute__" = some (some (.builtin "BaseException.__getattribute__"))) (gg : PySem.W.findIn K (.ref D) "__getattr__" = some none)
    (ha : PySem.W.findIn K (.ref D) "__class__" = some (some (.builtin "object.__class__"))) (hn : PySem.W.specialIn K (.builtin "object.__class__") "__get__" = some (some (.builtin "getset_descriptor.__get__"))) (ht : PySem.W.takesIn K (.builtin "object.__class__") = some true) (hm : PySem.W.mroIn K D (.type "object") = some true)
    (noW : PySem.W.findIn K (.ref D) "word" = some none) (noA : PySem.W.findIn K (.ref D) "at" = some none) (i : PySem.W.findIn K (.ref D) "__init__" = some (some (.ref fI))) (tI : PySem.W.typeIn K (.ref fI) = some (.type "function"))
    (lI : K.lookup fI = some ⟨oc, od, .func (PySem.W.fnOf "__init__" "NotUsable.__init__" (defArgs initS) (defBody initS) (defScope initS) .none kV doc pm an cdv ct), osl⟩) (cI : PySem.W.codeIn K cdv "NotUsable.__init__" = true) (kI : PySem.W.keepIn K (.ref fI) = true)
    (kC : PySem.W.keepIn K (.ref D) = true) (exC : PySem.W.subIn K (.ref D) (.type "BaseException") = some true) (tyC : PySem.W.typeIn K (.ref D) = some (.type "type")) (hdC : PySem.W.hasDictIn K D = true) (isC : PySem.W.isClsIn K D = true) (sV : PySem.W.subIn K (.ref D) (.type "ValueError") = some true) (sD : PySem.W.subIn K (.ref D) (.ref D) = some true)
    (p1 : Asked K mg "PaperError" D false) (p2 : Asked K mg "WebError" D true) (p3 : Asked K mg "LiveError" D false) (p4 : Asked K mg "TextError" D false) (p6 : Asked K mg "Missed" D false) :
    ErrM K mg D fI (PySem.W.fnOf "__init__" "NotUsable.__init__" (defArgs initS) (defBody initS) (defScope initS) .none kV doc pm an cdv ct) := by
  have FI : Fun K "__init__" "NotUsable.__init__" initS fI (PySem.W.fnOf "__init__" "NotUsable.__init__" (defArgs initS) (defBody initS) (defScope initS) .none kV doc pm an cdv ct) := fun_mk (st := initS) lI cI kI
  refine ⟨⟨⟨isC, ga, gg, exC, ha, hn, ht, hm⟩, ⟨ga, gg, exC, hdC⟩, noW, noA, p1, p2, p3, p4, asked_mk X G aD isC tyC sD (.inr rfl), p6, ?_⟩, ⟨cl, sa, exC, tyC, kC⟩, FI, FI.binds (fun _ _ _ _ _ _ us hl => match us, hl with | [_, _, _], _ => rfl), i, tI, PySem.W.mg_of X G aD⟩
  show (if (Value.ref D == Value.type "ValueError") = true then some true else if PySem.W.kitMeta "ValueError" = true then PySem.W.subIn K (.ref D) (.type "ValueError") else none) = some true
  rw [if_neg (show ¬ (Value.ref D == Value.type "ValueError") = true from fun z => by cases beq_iff_eq.mp z), if_pos (by decide +kernel)]
  exact sV
end
end Kn
open PySem PySem.W PyProof.Rows
set_option maxHeartbeats 0 in
theorem PySem.Challenge.cw_firstletter_k04_whole_stores_listed_holds : PySem.Challenge.rw_firstletter_k04_whole_stores_listed.Holds := by
  w_on; o_law; k_head; (case hw => w_witness2)
  k_fill
  refine Kn.walk_vowT (l := PySem.Challenge.rw_firstletter_k04_whole_stores_listed) (k := 10) (x := "_law_script") (sp := fun cs K => Kn.spLaw K (cs.map fun t => (t.2, Kn.qRt))) rfl rfl ⟨rfl, by decide, by decide⟩ (fun w h Y => PySem.W.km_in_of Y) ?F (fun cs _ _ a ns hl ht hS => ⟨a, ns, rfl, hS, hl, (fun p hp => ?_), fun _ => rfl⟩)
  case hc =>
    obtain ⟨t, h1, rfl⟩ := List.mem_map.mp hp
    exact LamX.TabS.nil (ht t h1)
  case F =>
    intro w loose' mean mg mb fa h T KX G hmg
    refine' Kn.all_mk T KX G hmg ?find ?nt ?EM ?mL ?ex ?t12 ?t13 ?t15 ?t16 ?t17 ?t18 ?t19 ?t20 ?t22 ?t23 ?t24 ?t25 ?t26 ?t27 ?t28 ?t29 ?t30 ?t31 ?t32 ?t33 ?t34 ?t35 ?t36 ?z1 ?z2 ?z3 ?z4 ?z5 ?z6 ?z7 ?z8 ?z9 ?z10 ?z11 ?z12 ?z13 ?z14
    (case z1 => k_is); (case z2 => k_is); (case z3 => k_is); (case z4 => k_is); (case z5 => k_is); (case z6 => k_is); (case z7 => k_is); (case z8 => k_is); (case z9 => k_is); (case z10 => k_is); (case z11 => k_is); (case z12 => k_is); (case z13 => k_is); (case z14 => k_is)
    (case find => rfl); (case nt => kernel_rfl)
    case EM =>
      refine' Kn.err_mk KX G ?aD ?cl ?sa ?ga ?gg ?ha ?hn ?ht ?hm ?noW ?noA ?i ?tI ?lI ?cI ?kI ?kC ?exC ?tyC ?hdC ?isC ?sV ?sD ?p1 ?p2 ?p3 ?p4 ?p6
      (case aD => k_is)
      (case cl => (refine' Kn.cls_mk ?x ?y; (case x => k_is); (case y => decide +kernel)))
      (case sa => k_is); (case ga => k_is); (case gg => k_is); (case ha => k_is); (case hn => k_is); (case ht => k_is); (case hm => k_is); (case noW => k_is); (case noA => k_is); (case i => k_is); (case tI => k_is); (case lI => k_is); (case cI => k_is); (case kI => k_is)
      (case kC => k_is); (case exC => k_is); (case tyC => k_is); (case hdC => k_is); (case isC => k_is); (case sV => k_is); (case sD => k_is)
      (case p2 => (refine' Kn.asked_mk KX G ?a ?c ?t ?s (.inr rfl); (case a => k_is); (case c => k_is); (case t => k_is); (case s => k_is)))
      all_goals
        refine' Kn.asked_mk KX G ?a ?c ?t ?s (.inl ?n)
        (case a => k_is); (case c => k_is); (case t => k_is); (case s => k_is); (case n => decide +kernel)
    case mL => (refine' PySem.W.mg_of KX G ?a; (case a => k_is))
    case ex => (refine' PySem.W.exm_ref ?a ?b ?c ?d; (case a => k_is); (case b => k_is); (case c => k_is); (case d => k_is))
    case t35 =>
      refine' Kn.atC_mk ?a ?l ?e ?k ?l2 ?v
      (case a => k_is); (case l => k_is); (case e => k_is); (case k => k_is); (case l2 => k_is); (case v => rfl)
    all_goals
      refine' Kn.at_mk ?a ?l ?c ?k
      (case a => k_is); (case l => k_is); (case c => k_is); (case k => k_is)
