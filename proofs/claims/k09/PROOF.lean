import PyProof.Rows.All
import Wide.All
import OpenK.AllK
import Wide.FinOn
import HandS.ForMost
import HandS.Star
import HandS.FStr
import HandS.RaiseMore
import PyProof.ReprRoads
import PyProof.StrLawsRepr
import HandS.TupAny
import PyProof.ReprLen
import KE.KRevSl
import PySem.Challenge.RW_firstletter_k09_texts_written
set_option Elab.async false
set_option linter.all false
set_option maxRecDepth 100000
set_option maxHeartbeats 8000000
/-! Kn: defs that show data by repr. A promise that holds where nothing is being shown yet (Vow), its body, its call, the law's end. -/
namespace Kn
open PySem PySem.Spec PyProof.Rows L2

section
variable (P : Program) (w : World) (K : PySem.W.Frag) (mg : Str → Option Value) (base : Heap)
structure Vow (k : Nat) (f : Addr) (fd : FuncData) (ps : List Str) (sp : Sp) : Prop where
  many : ∀ vs H Q E, sp vs H Q E → vs.length = ps.length
  goes : ∀ (A : Around) (fr : List Env) (s : Shared) (H : Hp) (g : Args) (us : List Value) (vs : List V) (Q : VK) (E : XK), A.guards = some [] → Room k A →
    Env0 P w K mg base A fr s H → BindsTo s fd g (ps.zip us) → Vals vs us → sp vs H Q E → codeAny (model P w) A (.call (.ref f) g) (CR CX0 fr P w H s Q E) s
end
section
variable {P : Program} {w : World} {K : PySem.W.Frag} {mg : Str → Option Value} {base : Heap} {k : Nat} {f : Addr} {fd : FuncData} {ps N : List Str} {sp : Sp} {x qual : Str} {st : Stmt}

theorem Vow.body (F : Fun K x qual st f fd) (S : FnScope N ps (defScope st)) (many : ∀ vs H Q E, sp vs H Q E → vs.length = ps.length)
    (hb : ∀ (cdv : Value) (A : Around) (fr : List Env) (s : Shared) (H : Hp) (vs : List V) (Q : VK) (E : XK), A.guards = some [] → Room k (A.deeper (envOfC qual (defScope st) s.heap.objs.size f cdv)) → sp vs H Q E →
      ∃ t, PSs (cxOf CX0 P w K mg base N qual (defScope st) f cdv A fr s H E).nox (defBody st) t ∧ t { nx := fun _ H' => Q .non H', rt := Q } (start N vs) H) :
    Vow P w K mg base (k + 1) f fd ps sp := by
  obtain ⟨oc, od, kV, doc, pm, an, cdv, ct, osl, rfl, look, cdOk⟩ := F.ex
  refine ⟨many, fun A fr s H g us vs Q E hg room z bound rv told => ?_⟩
  have held : ∀ b o, base.get? b = some o → s.heap.get? b = some o := fun b o y => (z.bs b o y).1
  have KS : K.In s.heap := z.mod.kin.keeps held
  have parL : ∀ y ∈ ps.zip us, (defScope st).names.lookup y.1 = some .local ∨ ((defScope st).names.lookup y.1 = some .cell ∧ ((cellsFrom (s.heap.objs.size + 1) (defScope st).names []).lookup y.1).isSome = true) := by
    rintro ⟨n, v⟩ hy
    cases S.par n (List.of_mem_zip hy).1 with
    | inl q => exact .inl q
    | inr q => exact .inr ⟨q, PySem.W.cellsFrom_some _ _ _ (.inl q)⟩
  refine codeAny_call_function room.depth (KS _ _ look) rfl S.co S.gen rfl (PySem.W.codeRec_of KS cdOk) (bound _ _ _ _ ?_)
  refine wpAny_newFunctionEnv_cells S.kind parL ?_
  rintro env rfl s1 y
  refine ⟨(z.mod.nolimit.keeps held).keeps y.toInCall.keep, codeAny_func ?_⟩
  obtain ⟨t, ht, ends⟩ := hb cdv A fr s H vs Q E hg (room.deeper _) told
  have I := inv_start (CX := CX0) (P := P) (mg := mg) (E := E) S room.hd z (many _ _ _ _ told) rv y
  refine wpAny_mono (ht.nox.run [] s1 (start N vs) H _ I ends) ?_ (fun _ _ q => q)
  intro fl s2 hs
  cases fl with
  | ret u => obtain ⟨v, σ2, H2, J, r2, q⟩ := hs; exact ⟨v, H2, J.os, J.bare, J.base, J.hok, r2, q⟩
  | next => obtain ⟨σ2, H2, J, q⟩ := hs; exact ⟨V.non, H2, J.os, J.bare, J.base, J.hok, rfl, q⟩
  | brk => obtain ⟨_, _, _, q⟩ := hs; exact q.elim
  | cont => obtain ⟨_, _, _, q⟩ := hs; exact q.elim

theorem Vow.of (F : FnOk P w K mg base CX0 k f fd ps sp) : Vow P w K mg base k f fd ps sp :=
  ⟨F.len, fun A fr s H g us vs Q E _ room z bound rv told => F.run A fr s H g us vs Q E room z bound rv told⟩
end

section
variable {X : Cx} {k : Nat} {f : Addr} {fd : FuncData} {ps : List Str} {sp : Sp} {x : Str} {p pos : Pos} {e : Expr} {es : List Expr} {t : TA}
/-- f(e, ..) of a def that vows -/
theorem pe_vow (F : Vow X.prog X.w X.K X.mg X.base k f fd ps sp) (hq : X.A.guards = some []) (hr : Room k X.A) (hg : Gl X x) (hm : X.mg x = some (.ref f)) (hk : PySem.W.keepIn X.K (.ref f) = true) (hb : Binds X.K fd ps [])
    (ha : PA X (e :: es) t) (hdb : (x == ("__debug__" : Str)) = false := by decide) (he : starEach (e :: es) X.env = (false, eval e X.env) :: starEach es X.env := by rfl) (hpl : (backTo pos (starEach es X.env)).any (·.1) = false := by rfl) :
    PE X (.Call (.Name x p) (e :: es) [] pos) (tCall sp [] E0 t) := by
  refine ⟨fun pins s σ H Q I told => wpAny_Call_Name_kw (ld_glob I hg hm ?_ hdb)⟩
  refine PySem.W.callWith_K (h₀ := X.base) I.ok.mod.kin hk (thn (ha.run pos pins s σ H _ I told) ?_) he hpl
  rintro us s1 ⟨vs, H1, I1, rv, q⟩
  refine ⟨I1.kIn, ?_⟩
  have q : sp (vs ++ []) H1 Q E0 := q
  rw [List.append_nil] at q
  have hl : (us ++ []).length = ps.length := by rw [List.append_nil, ← rv.length]; exact F.many _ _ _ _ q
  have hb1 := hb s1 us I1.kIn hl
  rw [List.append_nil] at hb1
  refine wpAny_call (codeAny_mono (F.goes X.A X.stack s1 H1 ⟨us, []⟩ us vs Q E0 hq hr I1.env0 hb1 rv q) ?_)
  intro r s2 out
  cases r with
  | error _ => exact False.elim out
  | ok fl =>
    cases fl with
    | ret u => exact I1.after out
    | next => exact False.elim out
    | brk => exact False.elim out
    | cont => exact False.elim out

/-- repr(x) of data -/
def rShow (K : PySem.W.Frag) : List V → Hp → VK → Prop := fun xs H Q => ∃ (a : Addr) (d : PyData), xs = [.ref a] ∧ Dp K H (.ref a) d ∧ d.showable = true ∧ d.hasDict = false ∧ d.depth ≤ 20 ∧ d.shown.length ≤ sizeLine ∧ Q (.str d.shown) H
theorem call_show (hq : X.A.guards = some []) (hu : X.A.units + 64 < cLine) : CallR X (.builtin "repr") (rShow X.K) := by
  rintro pins s σ H xs us Q I rv ⟨a, d, rfl, hd, h1, h2, h3, h4, q⟩
  obtain ⟨u, rfl, rfl⟩ := vals1 rv
  obtain ⟨as, rd⟩ := Dp.reads I d _ _ hd rfl
  exact repr_of_reads' rd h1 (PyData.noDict_hsm h2) hq (by omega) (fun _ _ y => y) (fun h' u tk kp => ⟨.str d.shown, H, I.kept kp, ⟨_, rfl⟩, q⟩) h4
end

/-! the law's end -/
section
variable {P : Program} {w : World} {K : PySem.W.Frag} {mg mb : Str → Option Value} {k : Nat} {fa a : Addr} {fd : FuncData} {x : Str} {sp : Sp} {s : Shared} {vs : List Value} {ns : List Int}
theorem end_vow (kin : K.In s.heap) (nsm : s.heap.Ns mainGlobals mg) (nsb : s.heap.Ns builtinsNs mb) (boot : ∀ y : Str, y ≠ "__name__" → mb y = bootBuiltins y) (lim : s.heap.NoLimit) (gens : s.gens = #[])
    (at_ : s.heap.get? a = some { cls := .type "list", data := .seq vs.toArray }) (iv : IntsAre vs ns) (short : ns.length ≤ sizeLine) (room : Room k callerA)
    (F : ∀ base : Heap, K.In base → base.Ns mainGlobals mg → Vow P w K mg base k fa fd [x] sp) (bound : ∀ (z : Shared) (u : Value), BindsTo z fd ⟨[u], []⟩ [(x, u)])
    (told : ∀ H : Hp, Only H → SqL K H a (ns.map V.int) → sp [.ref a] H (fun v _ => v = .bl true) E0) :
    codeAny (model P w) callerA (.call (.ref fa) ⟨[.ref a], []⟩) (fun r s' => r = .ok (.ret (.bool true)) ∧ OldK s.heap s'.heap ∧ s'.os = s.os ∧ AllBare s'.gens) s := by
  have many : ns.length = vs.length := by rw [iv.length]
  have main : ∀ H : Hp, Only H → SqL K H a (ns.map V.int) → HOk P w H s.heap → (∀ b u, H b = some u → b = a ∧ K.lookup a = none) →
      codeAny (model P w) callerA (.call (.ref fa) ⟨[.ref a], []⟩) (fun r s' => r = .ok (.ret (.bool true)) ∧ OldK s.heap s'.heap ∧ s'.os = s.os ∧ AllBare s'.gens) s := by
    intro H only lst ok alone
    have free : ∀ b o, s.heap.get? b = some o → o ≠ { cls := .type "list", data := .seq vs.toArray } → H b = none := by
      intro b o y ne
      cases q : H b with
      | none => rfl
      | some u =>
        obtain ⟨rfl, _⟩ := alone b u q
        rw [at_] at y
        exact absurd (Option.some.inj y).symm ne
    have nsk : ∀ {b : Addr} {m : Str → Option Value}, s.heap.Ns b m → (hidT s.heap H).Ns b m := by
      rintro b m ⟨o, es, ep, y, dd, r⟩
      refine ⟨o, es, ep, hidT_get y (free b o y ?_), dd, r⟩
      rintro rfl
      have dd2 : Data.seq vs.toArray _ = Data.dict es ep := dd
      cases dd2
    have kinB : K.In (hidT s.heap H) := by
      intro b o y
      refine hidT_get (kin b o y) ?_
      cases q : H b with
      | none => rfl
      | some u =>
        obtain ⟨rfl, no⟩ := alone b u q
        rw [no] at y
        cases y
    obtain ⟨mc, c1, c2⟩ := lim
    have md : Mod K mg (hidT s.heap H) := ⟨kinB, nsk nsm, ⟨mb, nsk nsb, boot⟩, mc, nsk c1, c2⟩
    have noL : ∀ {b : Addr}, b ∉ ([] : List Addr) := fun h => by cases h
    have z : Env0 P w K mg (hidT s.heap H) callerA [] s H := ⟨rfl, md, fun b o y => of_hidT y, Nat.le_of_eq (hidT_size _ _), trivial, fun b h => absurd h noL, ok, .of_eq gens⟩
    have run := (F _ kinB (nsk nsm)).goes callerA [] s H ⟨[.ref a], []⟩ [.ref a] [.ref a] _ _ rfl room z (bound s (.ref a)) (.cons rfl .nil) (told H only lst)
    refine codeAny_mono run ?_
    intro r s2 out
    cases r with
    | error _ => exact False.elim out
    | ok fl =>
      cases fl with
      | next => exact False.elim out
      | brk => exact False.elim out
      | cont => exact False.elim out
      | ret u =>
        obtain ⟨v, H2, os, bare, un, ok2, r2, rfl⟩ := out
        obtain rfl : u = Value.bool true := r2
        refine ⟨rfl, OldK.of_keep (fun b o y => ?_), os, bare⟩
        cases q : H b with
        | none => exact un.keep b o y q noL noL
        | some u =>
          rcases only b with n | ⟨ob, xs, n⟩
          · rw [q] at n
            cases n
          · obtain ⟨y1, _⟩ := ok b _ n
            obtain ⟨y2, _⟩ := ok2 b _ (un.frzs b ob _ n)
            rw [y] at y1
            cases y1
            exact y2
  have rv : Vals (ns.map V.int) vs := vals_ints iv
  cases hk : K.lookup a with
  | some o =>
    have y := kin a o hk
    rw [at_] at y
    cases y
    refine main (fun _ => none) (fun _ => .inl rfl) (.inr ⟨_, vs.toArray, _, hk, rfl, rfl, rfl, by rw [List.size_toArray, ← many]; exact short, by simpa using rv⟩) (fun b u q => ?_) (fun b u q => ?_)
    · have q : (none : Option HO) = some u := q
      cases q
    · have q : (none : Option HO) = some u := q
      cases q
  | none =>
    refine main (fun b => if b = a then some (.frz { cls := .type "list", data := .seq vs.toArray } (.lst (ns.map V.int))) else none) (fun b => ?_) (.inl (.inr ⟨{ cls := .type "list", data := .seq vs.toArray }, if_pos rfl⟩)) (fun b u q => ?_) (fun b u q => ?_)
    · by_cases hb : b = a
      · exact .inr ⟨_, _, if_pos hb⟩
      · exact .inl (if_neg hb)
    · by_cases hb : b = a
      · subst hb
        cases (if_pos rfl).symm.trans q
        exact ⟨at_, by rw [List.length_map]; exact short, vs, _, rv, at_⟩
      · cases (if_neg hb).symm.trans q
    · by_cases hb : b = a
      · exact ⟨hb, hk⟩
      · cases (if_neg hb).symm.trans q

theorem walk_vow {l : PySem.W.OpenLaw} {q : Program} {loose : List Str} {XP : (Str → Option Value) → Heap → Prop} {YP : World → Heap → Prop} {d : DefRec} {K : Params → PySem.W.Frag} {sp : PySem.W.Frag → Sp}
    (most : l.most = some 63) (dflt : d.params.defaults = []) (room : Room k callerA) (hY : ∀ (w : World) (h : Heap), YP w h → (K w.params).In h)
    (F : ∀ (w : World) (mg : Str → Option Value) (fa : Addr) (h : Heap), (K w.params).In h → h.Ns mainGlobals mg → mg d.name = some (.ref fa) →
      ∃ fd : FuncData, (∀ (z : Shared) (u : Value), BindsTo z fd ⟨[u], []⟩ [(x, u)]) ∧ ∀ base : Heap, (K w.params).In base → base.Ns mainGlobals mg → Vow l.prog w (K w.params) mg base k fa fd [x] (sp (K w.params)))
    (told : ∀ (K : PySem.W.Frag) (H : Hp) (a : Addr) (ns : List Int), ns.length ≤ 63 → Only H → SqL K H a (ns.map V.int) → sp K [.ref a] H (fun v _ => v = .bl true) E0) :
    PySem.W.WalkO q loose XP YP l.row.toRowW d [] (fun f vs => PySem.call f vs) := by
  refine Att.attach_call most dflt ?_
  intro w s0 s1 mg mb fa o pm cd doc a vs ns G Y ho hd hcd hmg hobj iv short gens
  have kin := hY w _ Y
  obtain ⟨fd, hb, hF⟩ := F w mg fa _ kin G.T.g hmg
  exact end_vow kin G.T.g G.T.b G.T.builtins G.T.nolimit gens hobj iv (Nat.le_trans short (by decide)) room hF hb (fun H only lst => told _ H a ns short only lst)
end
end Kn
/-! Kn: texts: lengths and signs; the pure defs of the program and of the law. -/
namespace Kn
open PySem PySem.Spec PyProof.Rows L2

/-! ### texts -/
def Fit (n : Nat) (x : Str) : Prop := x.length ≤ n ∧ ∀ c ∈ x.cps.toList, c < 16 ^ 8
theorem Fit.mono {n m : Nat} {x : Str} (h : Fit n x) (l : n ≤ m) : Fit m x := ⟨Nat.le_trans h.1 l, h.2⟩
theorem len_app (a b : Str) : (a ++ b).length = a.length + b.length := by
  show (a.cps ++ b.cps).size = _
  rw [Array.size_append]
  rfl
theorem Fit.app {n m : Nat} {a b : Str} (h : Fit n a) (k : Fit m b) : Fit (n + m) (a ++ b) := by
  refine ⟨by rw [len_app]; have := h.1; have := k.1; omega, fun c hc => ?_⟩
  have hc : c ∈ (a.cps ++ b.cps).toList := hc
  rw [Array.toList_append, List.mem_append] at hc
  exact hc.elim (h.2 c) (k.2 c)
theorem app_assoc (a b c : Str) : a ++ b ++ c = a ++ (b ++ c) := by
  show Str.mk (a.cps ++ b.cps ++ c.cps) = Str.mk (a.cps ++ (b.cps ++ c.cps))
  rw [Array.append_assoc]
theorem nil_app (a : Str) : Str.empty ++ a = a := by
  show Str.mk (#[] ++ a.cps) = a
  rw [Array.empty_append]
theorem Fit.join {n m : Nat} {y : Str} (hy : Fit m y) : ∀ (xs : List Str), (∀ x ∈ xs, Fit n x) → Fit (xs.length * (n + m)) (Str.join y xs)
  | [], _ => ⟨Nat.zero_le _, fun c hc => by cases hc⟩
  | [x], h => (h x (List.mem_cons_self ..)).mono (by rw [List.length_singleton]; omega)
  | x :: z :: r, h => by
    have ih := Fit.join hy (z :: r) fun v hv => h v (List.mem_cons_of_mem _ hv)
    have q := ((h x (List.mem_cons_self ..)).app hy).app ih
    refine q.mono ?_
    simp only [List.length_cons, Nat.add_mul, Nat.one_mul]
    omega
theorem fit_string (s : String) : ∀ c ∈ (Str.ofString s).cps.toList, c < 16 ^ 8 := by
  intro c hc
  rw [Str.ofString_eq_toList] at hc
  have hc : c ∈ s.toList.map Char.toNat := by simpa using hc
  obtain ⟨d, _, rfl⟩ := List.mem_map.mp hc
  have h : d.toNat < 1114112 := by
    have v := d.valid
    have e : d.toNat = d.val.toNat := rfl
    rcases v with v | ⟨_, v⟩
    · rw [e]; have v : d.val.toNat < 55296 := v; omega
    · rw [e]; exact v
  exact Nat.lt_trans h (by decide)
theorem len_string (s : String) : (Str.ofString s).length = s.toList.length := by
  rw [Str.ofString_eq_toList]
  show ((s.toList.map Char.toNat).toArray).size = _
  rw [List.size_toArray, List.length_map]

/-! ### comprehensions that change nothing -/
theorem tupS {K : PySem.W.Frag} {H H' : Hp} {a : Addr} {xs : List V} (e : Same H H') (h : SqT K H a xs) : SqT K H' a xs := by
  rcases h with (h | ⟨o, h⟩) | h
  · exact .inl (.inl (e _ _ h))
  · exact .inl (.inr ⟨o, e _ _ h⟩)
  · exact .inr h
theorem same_new {H : Hp} {p : Addr} {o : HO} (h : H p = none) : Same H (upd H p o) := fun b x e => by
  rw [upd_ne (ne_of_none e h)]
  exact e
theorem putS {H H' : Hp} {p : Addr} {o : HO} (e : Same H H') (h : H p = none) : Same H (upd H' p o) := fun b x q => by
  rw [upd_ne (ne_of_none q h)]
  exact e _ _ q
theorem small' {n : Nat} (h : n ≤ 1000) : n < sizeLine := Nat.lt_of_le_of_lt h (by decide)
theorem take_next {ys : List V} {i : Nat} {y : V} (h : ys[i]? = some y) : ys.take i ++ [y] = ys.take (i + 1) := by
  rw [List.take_add_one, h]
  rfl
theorem lc_mapT {K : PySem.W.Frag} {a : Addr} {xs : List V} {slot : Nat} {te tl : TE} {vs : List Nat} {σ : L2.St} {H : Hp} {Q : VK} (ys : List V) (hl : ys.length = xs.length) (hs : xs.length ≤ 1000) (hT : SqT K H a xs)
    (htl : ∀ R : VK, R (.ref a) H → tl σ H R) (w : ∀ v, wipe ((wipe σ vs).set slot (some v)) vs = wipe σ vs)
    (turn : ∀ (i : Nat) (x y : V) (G : Hp) (R : VK), xs[i]? = some x → ys[i]? = some y → Same H G → (∀ G', Same G G' → R y G') → te ((wipe σ vs).set slot (some x)) G R)
    (done : ∀ (D : Addr) (G : Hp), H D = none → Same H G → G D = some (.lst ys) → Q (.ref D) G) : tLc (iTup K tl) (gName slot) tYes te vs σ H Q := by
  refine htl _ ⟨a, rfl, ⟨xs, hT⟩, fun D nD => ?_⟩
  refine lc_tup (K := K) (a := a) (xs := xs) (fun i G => Same H G ∧ G D = some (.lst (ys.take i))) ⟨same_new nD, upd_same⟩ (fun i G _ h => tupS h.1 hT) ?_ ?_
  · rintro i x G hx ⟨sm, hD⟩
    have hi : i < xs.length := (List.getElem?_eq_some_iff.mp hx).1
    have hy : ys[i]? = some (ys[i]'(by omega)) := List.getElem?_eq_getElem (by omega)
    refine ⟨w x, ?_⟩
    simp only [tYes, ↓reduceIte]
    refine turn i x _ G _ hx hy sm fun G' s' => ⟨ys.take i, s' _ _ hD, ?_, ?_, ?_⟩
    · rw [List.length_take]
      exact small' (by omega)
    · exact putS (sm.trans s') nD
    · rw [upd_same, take_next hy]
  · rintro G ⟨sm, hD⟩
    refine done D G nD sm ?_
    rw [hD, List.take_of_length_le (by omega)]
theorem lc_mapL {K : PySem.W.Frag} {a : Addr} {xs : List V} {slot : Nat} {te tl : TE} {vs : List Nat} {σ : L2.St} {H : Hp} {Q : VK} (ys : List V) (hl : ys.length = xs.length) (hs : xs.length ≤ 1000) (hT : SqL K H a xs)
    (htl : ∀ R : VK, R (.ref a) H → tl σ H R) (w : ∀ v, wipe ((wipe σ vs).set slot (some v)) vs = wipe σ vs)
    (turn : ∀ (i : Nat) (x y : V) (G : Hp) (R : VK), xs[i]? = some x → ys[i]? = some y → Same H G → (∀ G', Same G G' → R y G') → te ((wipe σ vs).set slot (some x)) G R)
    (done : ∀ (D : Addr) (G : Hp), H D = none → Same H G → G D = some (.lst ys) → Q (.ref D) G) : tLc (iList K tl) (gName slot) tYes te vs σ H Q := by
  refine htl _ ⟨a, rfl, ⟨xs, hT⟩, fun D nD => ?_⟩
  refine lc_list (K := K) (a := a) (xs := xs) (fun i G => Same H G ∧ G D = some (.lst (ys.take i))) ⟨same_new nD, upd_same⟩ (fun i G _ h => h.1.seq hT) ?_ ?_
  · rintro i x G hx ⟨sm, hD⟩
    have hi : i < xs.length := (List.getElem?_eq_some_iff.mp hx).1
    have hy : ys[i]? = some (ys[i]'(by omega)) := List.getElem?_eq_getElem (by omega)
    refine ⟨w x, ?_⟩
    simp only [tYes, ↓reduceIte]
    refine turn i x _ G _ hx hy sm fun G' s' => ⟨ys.take i, s' _ _ hD, ?_, ?_, ?_⟩
    · rw [List.length_take]
      exact small' (by omega)
    · exact putS (sm.trans s') nD
    · rw [upd_same, take_next hy]
  · rintro G ⟨sm, hD⟩
    refine done D G nD sm ?_
    rw [hD, List.take_of_length_le (by omega)]

/-! ### str of an int or a text -/
def shV : V → Str
  | .int i => Str.ofString (toString i)
  | .str z => z
  | _ => Str.empty
def FlatV : V → Prop
  | .int i => i.natAbs.log2 < 1920
  | .str _ => True
  | _ => False
theorem call_str_flat {X : Cx} : CallR X (.type "str") (fun xs H Q => ∃ v, xs = [v] ∧ FlatV v ∧ Q (.str (shV v)) H) := by
  rintro pins s σ H xs us Q I rv ⟨v, rfl, hv, q⟩
  cases v with
  | int i => exact call_str_int pins s σ H _ us Q I rv ⟨i, rfl, hv, q⟩
  | str z => exact SkE.call_str_str pins s σ H _ us Q I rv ⟨z, rfl, q⟩
  | _ => exact hv.elim

/-! ### the data -/
structure Ent where
  name : Str
  fee : Int
  has : Bool
  row : List Str
def Ent.ok (e : Ent) : Prop := Fit 8 e.name ∧ e.fee.natAbs < 10 ^ 60 ∧ e.row.length ≤ 8 ∧ ∀ s ∈ e.row, Fit 8 s
def EntAt (K : PySem.W.Frag) (H : Hp) (v : V) (e : Ent) : Prop := ∃ p q, v = .ref p ∧ SqT K H p [.str e.name, .int e.fee, .bl e.has, .ref q] ∧ SqT K H q (e.row.map V.str)
inductive EntsAt (K : PySem.W.Frag) (H : Hp) : List V → List Ent → Prop
  | nil : EntsAt K H [] []
  | cons {v : V} {vs : List V} {e : Ent} {es : List Ent} : EntAt K H v e → EntsAt K H vs es → EntsAt K H (v :: vs) (e :: es)
theorem EntAt.same {K : PySem.W.Frag} {H H' : Hp} {v : V} {e : Ent} (s : Same H H') : EntAt K H v e → EntAt K H' v e := fun ⟨p, q, a, b, c⟩ => ⟨p, q, a, tupS s b, tupS s c⟩
theorem EntsAt.same {K : PySem.W.Frag} {H H' : Hp} (s : Same H H') : ∀ {vs : List V} {es : List Ent}, EntsAt K H vs es → EntsAt K H' vs es
  | _, _, .nil => .nil
  | _, _, .cons a b => .cons (a.same s) (EntsAt.same s b)
theorem EntsAt.len {K : PySem.W.Frag} {H : Hp} : ∀ {vs : List V} {es : List Ent}, EntsAt K H vs es → vs.length = es.length
  | _, _, .nil => rfl
  | _, _, .cons _ b => congrArg Nat.succ (EntsAt.len b)
theorem EntsAt.get {K : PySem.W.Frag} {H : Hp} : ∀ {vs : List V} {es : List Ent} {i : Nat} {v : V}, EntsAt K H vs es → vs[i]? = some v → ∃ e, es[i]? = some e ∧ EntAt K H v e
  | _, _, i, v, .nil, h => by cases h
  | _, _, 0, v, .cons a b, h => by
    have h : some _ = some v := h
    cases h
    exact ⟨_, rfl, a⟩
  | _, _, i + 1, v, .cons a b, h => EntsAt.get (i := i) b h
theorem EntsAt.append {K : PySem.W.Frag} {H : Hp} : ∀ {vs ws : List V} {es ds : List Ent}, EntsAt K H vs es → EntsAt K H ws ds → EntsAt K H (vs ++ ws) (es ++ ds)
  | _, _, _, _, .nil, h => h
  | _, _, _, _, .cons a b, h => .cons a (EntsAt.append b h)
theorem EntsAt.rev {K : PySem.W.Frag} {H : Hp} : ∀ {vs : List V} {es : List Ent}, EntsAt K H vs es → EntsAt K H vs.reverse es.reverse
  | _, _, .nil => .nil
  | _, _, .cons a b => by
    rw [List.reverse_cons, List.reverse_cons]
    exact (EntsAt.rev b).append (.cons a .nil)
structure Pg where
  es : List Ent
  asks : Str
def Pg.ok (g : Pg) : Prop := g.es.length ≤ 12 ∧ (∀ e ∈ g.es, e.ok) ∧ Fit 8 g.asks
def PgAt (K : PySem.W.Frag) (H : Hp) (v : V) (g : Pg) : Prop := ∃ p q vs, v = .ref p ∧ SqT K H p [.ref q, .str g.asks] ∧ SqT K H q vs ∧ EntsAt K H vs g.es
theorem PgAt.same {K : PySem.W.Frag} {H H' : Hp} {v : V} {g : Pg} (s : Same H H') : PgAt K H v g → PgAt K H' v g := fun ⟨p, q, vs, a, b, c, d⟩ => ⟨p, q, vs, a, tupS s b, tupS s c, d.same s⟩

/-! ### the texts -/
def tabT (t : List Str) : Str := if t = [] then ("-" : Str) else Str.join "," t
def wordT (b : Bool) : Str := if b = true then ("has" : Str) else ("not" : Str)
def feeT (i : Int) : Str := Str.ofString (toString i)
def lineT (e : Ent) : Str := Str.join " " ["kind", e.name, feeT e.fee, wordT e.has, tabT e.row]
def pageT (g : Pg) : Str := Str.join "\n" (g.es.map lineT ++ [("asker " : Str) ++ g.asks])
theorem fit_of (s : String) {n : Nat} (h : s.toList.length ≤ n) : Fit n (Str.ofString s) := ⟨by rw [len_string]; exact h, fit_string s⟩
theorem fee_log {i : Int} (h : i.natAbs < 10 ^ 60) : i.natAbs.log2 < 1920 := by
  by_cases z : i.natAbs = 0
  · rw [z]; decide
  · exact (Nat.log2_lt z).mpr (Nat.lt_trans h (by decide))
theorem feeT_fit {i : Int} (h : i.natAbs < 10 ^ 60) : Fit 61 (feeT i) := by
  refine fit_of _ ?_
  have := int_text_length_le10 (k := 60) (by decide) h
  rw [String.length_toList]
  exact this
theorem tabT_fit {t : List Str} (h : t.length ≤ 8) (k : ∀ s ∈ t, Fit 8 s) : Fit 100 (tabT t) := by
  unfold tabT
  split
  · exact fit_of "-" (by decide)
  · refine (Fit.join (m := 1) (fit_of "," (by decide)) t k).mono ?_
    have := Nat.mul_le_mul_right (8 + 1) h
    omega
theorem wordT_fit (b : Bool) : Fit 3 (wordT b) := by
  unfold wordT
  split
  · exact fit_of "has" (by decide)
  · exact fit_of "not" (by decide)
theorem lineT_fit {e : Ent} (h : e.ok) : Fit 600 (lineT e) := by
  obtain ⟨h1, h2, h3, h4⟩ := h
  refine (Fit.join (n := 100) (m := 1) (fit_of " " (by decide)) _ ?_).mono (by simp)
  intro x hx
  simp only [List.mem_cons, List.not_mem_nil, or_false] at hx
  rcases hx with rfl | rfl | rfl | rfl | rfl
  · exact (fit_of "kind" (n := 100) (by decide))
  · exact h1.mono (by omega)
  · exact (feeT_fit h2).mono (by omega)
  · exact (wordT_fit _).mono (by omega)
  · exact (tabT_fit h3 h4)
theorem askT_fit {g : Pg} (h : g.ok) : Fit 600 (("asker " : Str) ++ g.asks) := ((fit_of "asker " (n := 6) (by decide)).app h.2.2).mono (by omega)
theorem pageT_fit {g : Pg} (h : g.ok) : Fit 10000 (pageT g) := by
  refine (Fit.join (n := 600) (m := 1) (fit_of "\n" (by decide)) _ ?_).mono ?_
  · intro x hx
    rcases List.mem_append.mp hx with hx | hx
    · obtain ⟨e, he, rfl⟩ := List.mem_map.mp hx
      exact lineT_fit (h.2.1 e he)
    · obtain rfl := List.mem_singleton.mp hx
      exact askT_fit h
  · have := Nat.mul_le_mul_right (600 + 1) h.1
    rw [List.length_append, List.length_map, List.length_singleton, Nat.add_mul]
    omega
theorem kind_sp : ("kind " : Str) = ("kind" : Str) ++ (" " : Str) := by decide +kernel
theorem line_chain (e : Ent) : Str.empty ++ ("kind " : Str) ++ e.name ++ (" " : Str) ++ feeT e.fee ++ (" " : Str) ++ wordT e.has ++ (" " : Str) ++ tabT e.row = lineT e := by
  unfold lineT
  simp only [Str.join, app_assoc, nil_app, kind_sp]
end Kn
namespace Kn
open PySem PySem.Spec PyProof.Rows L2
def topS (i : Nat) : Stmt := PySem.Challenge.pw_firstletter_k09_texts_written.main.body.getD i (.Pass ⟨0, 0, 0, 0⟩)
/-! ### the slots -/
abbrev nTab : List Str := ["table"]
theorem scTab : FnScope nTab ["table"] (defScope (topS 1)) := ⟨rfl, rfl, rfl, by decide +kernel, rfl, by decide +kernel, by decide +kernel⟩
abbrev nKind : List Str := ["kind", "name", "fee", "has", "table", "word"]
theorem scKind : FnScope nKind ["kind"] (defScope (topS 2)) := ⟨rfl, rfl, rfl, by decide +kernel, rfl, by decide +kernel, by decide +kernel⟩
abbrev nWeb : List Str := ["web", "kinds", "asker", "lines", "kind"]
theorem scWeb : FnScope nWeb ["web"] (defScope (topS 3)) := ⟨rfl, rfl, rfl, by decide +kernel, rfl, by decide +kernel, by decide +kernel⟩
abbrev nNum : List Str := ["numbers", "number"]
theorem scNum : FnScope nNum ["numbers"] (defScope (topS 4)) := ⟨rfl, rfl, rfl, by decide +kernel, rfl, by decide +kernel, by decide +kernel⟩
/-! ### the promises -/
def spTab (K : PySem.W.Frag) : Sp := fun vs H Q _ => ∃ (a : Addr) (t : List Str), vs = [.ref a] ∧ SqT K H a (t.map V.str) ∧ t.length ≤ 8 ∧ (∀ s ∈ t, Fit 8 s) ∧ Q (.str (tabT t)) H
def spKind (K : PySem.W.Frag) : Sp := fun vs H Q _ => ∃ (v : V) (e : Ent), vs = [v] ∧ EntAt K H v e ∧ e.ok ∧ Q (.str (lineT e)) H
def spWeb (K : PySem.W.Frag) : Sp := fun vs H Q _ => ∃ (v : V) (g : Pg), vs = [v] ∧ PgAt K H v g ∧ g.ok ∧ ∀ H', Same H H' → Q (.str (pageT g)) H'
def numT (t : List Int) : Str := Str.join "," (t.map feeT)
def spNum (K : PySem.W.Frag) : Sp := fun vs H Q _ => ∃ (a : Addr) (t : List Int), vs = [.ref a] ∧ SqT K H a (t.map V.int) ∧ t.length ≤ 8 ∧ (∀ i ∈ t, i.natAbs < 10 ^ 60) ∧ ∀ H', Same H H' → Q (.str (numT t)) H'

theorem sum_le {n : Nat} : ∀ (ys : List Str), (∀ y ∈ ys, Fit n y) → (ys.map (·.length)).sum ≤ ys.length * n
  | [], _ => Nat.zero_le _
  | y :: r, h => by
    have ih := sum_le r fun v hv => h v (List.mem_cons_of_mem _ hv)
    have q := (h y (List.mem_cons_self ..)).1
    rw [List.map_cons, List.sum_cons, List.length_cons, Nat.add_mul]
    omega
/-- what join asks: few short texts -/
theorem join_room {n m : Nat} {a : Str} {ys : List Str} (h : ∀ y ∈ ys, Fit n y) (ha : a.length ≤ 10) (hl : ys.length ≤ m) (hm : m * (n + 10) ≤ 16777216) : (ys.map (·.length)).sum + ys.length * a.length ≤ 16777216 := by
  have h1 := sum_le ys h
  have h2 : ys.length * (n + 10) ≤ m * (n + 10) := Nat.mul_le_mul_right _ hl
  have h3 : ys.length * a.length ≤ ys.length * 10 := Nat.mul_le_mul_left _ ha
  rw [Nat.mul_add] at h2
  omega
theorem size16 : 16777216 ≤ sizeLine := by decide
section
variable {P : Program} {w : World} {K : PySem.W.Frag} {mg : Str → Option Value} {base : Heap}
theorem ok_tab {f : Addr} {fd : FuncData} (F : Fun K "table_text" "table_text" (topS 1) f fd) (ml : mg "len" = none) : FnOk P w K mg base CX0 1 f fd ["table"] (spTab K) := by
  refine F.ok scTab (fun vs H Q E h => ?_) (fun cdv A outer s H vs Q E hr h => ?_)
  · obtain ⟨a, t, rfl, _⟩ := h
    rfl
  · obtain ⟨a, t, rfl, hT, hl, hf, q⟩ := h
    refine ⟨_, pss_one (ps_ret (pe_ifExp (pt_cmpR op_gt (pe_callB call_len_seq (by rfl) ml PySem.boot_len (pa_cons (pv 0) pa_nil)) pe_int (nomark _)) (pe_join pe_str (pv 0)) pe_str)), ?_⟩
    refine ⟨.ref a, rfl, a, t.map V.str, rfl, .inr hT, _, _, rfl, rfl, _, rfl, ite2 (fun e => ?_) (fun e => ?_)⟩
    · have e0 := of_decide_eq_true e
      have ne : t ≠ [] := fun z => by
        subst z
        exact absurd e0 (by decide)
      refine ⟨⟨_, rfl⟩, .ref a, rfl, _, a, t, rfl, rfl, .inr hT, join_room (m := 8) hf (by decide) hl (by decide), ?_⟩
      have et : tabT t = Txt.join "," t := by
        unfold tabT
        rw [if_neg ne, TL.join_eq]
      rw [← et]
      exact q
    · have et : t = [] := by
        cases t with
        | nil => rfl
        | cons x r =>
          refine absurd (decide_eq_true ?_) e
          rw [List.length_map, List.length_cons]
          omega
      subst et
      exact q

theorem ok_kind {f fT : Addr} {fd fdT : FuncData} (F : Fun K "kind_text" "kind_text" (topS 2) f fd) (FT : Fun K "table_text" "table_text" (topS 1) fT fdT) (bT : Binds K fdT ["table"] []) (gT : mg "table_text" = some (.ref fT)) (ml : mg "len" = none) :
    FnOk P w K mg base CX0 2 f fd ["kind"] (spKind K) := by
  have GT : FnOk P w K mg base CX0 1 fT fdT ["table"] (spTab K) := ok_tab FT ml
  refine F.ok scKind (fun vs H Q E h => ?_) (fun cdv A outer s H vs Q E hr h => ?_)
  · obtain ⟨v, e, rfl, _⟩ := h
    rfl
  · obtain ⟨v, e, rfl, ⟨p, r, rfl, hp, hq⟩, ⟨k1, k2, k3, k4⟩, q⟩ := h
    refine ⟨_, pss_cons (ps_asg (pv 0) (pg_tup (by rfl) (pgs_cons (pg_name (i := 1) scKind.nd rfl (.inl rfl)) (pgs_cons (pg_name (i := 2) scKind.nd rfl (.inl rfl)) (pgs_cons (pg_name (i := 3) scKind.nd rfl (.inl rfl)) (pgs_cons (pg_name (i := 4) scKind.nd rfl (.inl rfl)) pgs_nil))))))
      (pss_cons (ps_set (i := 5) scKind.nd rfl (.inl rfl) (pe_ifExp (pt_val (pv 3)) pe_str pe_str))
      (pss_one (ps_ret (pe_joined (PJ.cons pe_str (PJ.cons (pe_fmt (pv 1)) (PJ.cons pe_str (PJ.cons (pe_fmt (pv 2)) (PJ.cons pe_str (PJ.cons (pe_fmt (pv 5)) (PJ.cons pe_str (PJ.cons (pe_fmt (pe_call GT hr (by rfl) gT FT.kp bT .nil pass0 (pa_cons (pv 4) pa_nil))) PJ.nil)))))))))))), ?_⟩
    refine ⟨.ref p, rfl, p, _, rfl, hp, rfl, _, _, rfl, _, _, rfl, _, _, rfl, _, _, rfl, rfl, ?_⟩
    have fw := wordT_fit e.has
    have ff := feeT_fit k2
    have ft := tabT_fit k3 k4
    have h0 : Fit 0 Str.empty := ⟨Nat.le_refl _, fun c hc => by cases hc⟩
    have h1 := h0.app (fit_of "kind " (n := 5) (by decide))
    have h2 := h1.app k1
    have h3 := h2.app (fit_of " " (n := 1) (by decide))
    have h4 := h3.app ff
    have h5 := h4.app (fit_of " " (n := 1) (by decide))
    have h6 := h5.app fw
    have h7 := h6.app (fit_of " " (n := 1) (by decide))
    have h8 := h7.app ft
    have big : ∀ {n : Nat} {x : Str}, Fit n x → n ≤ 1000 → x.length ≤ sizeLine := fun h l => Nat.le_trans h.1 (Nat.le_of_lt (small' l))
    have el := line_chain e
    have ew : ∀ b : Bool, e.has = b → wordT e.has = wordT b := fun b z => by rw [z]
    refine ⟨_, rfl, e.has, rfl, ?_⟩
    cases hh : e.has
    all_goals
      first | refine iteT ?_ | refine iteF ?_
      rw [hh] at fw h6 h7 h8 el
      refine ⟨_, rfl, big h1 (by decide), _, rfl, .inl ⟨_, rfl, big k1 (by decide), _, rfl, big h2 (by decide), ?_⟩⟩
      refine ⟨_, rfl, big h3 (by decide), _, rfl, .inr ⟨_, rfl, fee_log k2, _, rfl, big h4 (by decide), ?_⟩⟩
      refine ⟨_, rfl, big h5 (by decide), _, rfl, .inl ⟨_, rfl, big fw (by decide), _, rfl, big h6 (by decide), ?_⟩⟩
      refine ⟨_, rfl, big h7 (by decide), .ref r, rfl, r, e.row, rfl, hq, k3, k4, .inl ⟨_, rfl, big ft (by decide), _, rfl, big h8 (by decide), ?_⟩⟩
      rw [← el] at q
      exact q
end
end Kn
namespace Kn
open PySem PySem.Spec PyProof.Rows L2
abbrev nJoin : List Str := ["_law_some", "_law_one"]
theorem scJoin : FnScope nJoin ["_law_some"] (defScope (topS 11)) := ⟨rfl, rfl, rfl, by decide +kernel, rfl, by decide +kernel, by decide +kernel⟩
abbrev nLine : List Str := ["_law_entry"]
theorem scLine : FnScope nLine ["_law_entry"] (defScope (topS 12)) := ⟨rfl, rfl, rfl, by decide +kernel, rfl, by decide +kernel, by decide +kernel⟩
abbrev nPage : List Str := ["_law_page_here", "_law_lines", "_law_entry"]
theorem scPage : FnScope nPage ["_law_page_here"] (defScope (topS 13)) := ⟨rfl, rfl, rfl, by decide +kernel, rfl, by decide +kernel, by decide +kernel⟩
/-- joined: of short flat things -/
def joinT (xs : List V) : Str := if xs = [] then ("-" : Str) else Str.join "," (xs.map shV)
def ShortV (v : V) : Prop := FlatV v ∧ Fit 61 (shV v)
def spJoin (K : PySem.W.Frag) : Sp := fun vs H Q _ => ∃ (a : Addr) (xs : List V), vs = [.ref a] ∧ SqT K H a xs ∧ xs.length ≤ 8 ∧ (∀ v ∈ xs, ShortV v) ∧ ∀ H', Same H H' → Q (.str (joinT xs)) H'
def spLine (K : PySem.W.Frag) : Sp := fun vs H Q _ => ∃ (v : V) (e : Ent), vs = [v] ∧ EntAt K H v e ∧ e.ok ∧ ∀ H', Same H H' → Q (.str (lineT e)) H'

theorem map_get {α β : Type} {f : α → β} {l : List α} {i : Nat} {y : β} (h : (l.map f)[i]? = some y) : ∃ x, l[i]? = some x ∧ f x = y := by
  rw [List.getElem?_map] at h
  exact Option.map_eq_some_iff.mp h
theorem shV_strs (t : List Str) : (t.map V.str).map shV = t := by
  rw [List.map_map]
  have e : shV ∘ V.str = id := rfl
  rw [e, List.map_id]
theorem joinT_str (t : List Str) : joinT (t.map V.str) = tabT t := by
  unfold joinT tabT
  cases t with
  | nil => rfl
  | cons x r => rw [if_neg (by simp), if_neg (by simp), shV_strs]
theorem joinT_int {t : List Int} (h : t ≠ []) : joinT (t.map V.int) = numT t := by
  unfold joinT numT
  rw [if_neg (by simpa using h), List.map_map]
  rfl
theorem short_str {z : Str} (h : Fit 8 z) : ShortV (.str z) := ⟨trivial, h.mono (by decide)⟩
theorem short_int {i : Int} (h : i.natAbs < 10 ^ 60) : ShortV (.int i) := ⟨fee_log h, feeT_fit h⟩
theorem seq_asg {te : TE} {g : TG} {u : TS} {D : Ends} {σ : L2.St} {H : Hp} (h : te σ H fun x H1 => g x σ H1 (u D)) : tSeq (tAsg te g) u D σ H := h
section
variable {P : Program} {w : World} {K : PySem.W.Frag} {mg : Str → Option Value} {base : Heap}

theorem ok_num {f : Addr} {fd : FuncData} (F : Fun K "numbers_text" "numbers_text" (topS 4) f fd) (ms : mg "str" = none) : FnOk P w K mg base CX0 1 f fd ["numbers"] (spNum K) := by
  refine F.ok scNum (fun vs H Q E h => ?_) (fun cdv A outer s H vs Q E hr h => ?_)
  · obtain ⟨a, t, rfl, _⟩ := h
    rfl
  · obtain ⟨a, t, rfl, hT, hl, hf, q⟩ := h
    refine ⟨_, pss_one (ps_ret (pe_join pe_str (pe_lc (own := [("number", 1)]) (g := gName 1) (by rfl) scNum.nd (pi_tup (pv 0)) (blkOk_by (own := [("number", 1)]) (N := nNum) (sc := defScope (topS 4)) (by decide +kernel))
      (fun _ _ _ _ _ => pg_name (i := 1) scNum.nd rfl (Or.inl rfl)) (fun _ _ _ _ _ => pts_nil) (fun _ _ _ _ _ => pe_callTy call_str_flat (by rfl) ms (by decide +kernel) (pa_cons (pv 1) pa_nil))))), ?_⟩
    refine ⟨⟨_, rfl⟩, ?_⟩
    refine lc_mapT (a := a) (xs := t.map V.int) (t.map fun i => V.str (feeT i)) (by simp) (by simp; omega) hT (fun R r => ⟨.ref a, rfl, r⟩) (fun v => rfl) ?_ ?_
    · intro i x y G R hx hy sm k
      obtain ⟨n, hn, rfl⟩ := map_get hx
      obtain ⟨n', hn', rfl⟩ := map_get hy
      obtain rfl : n = n' := Option.some.inj (hn.symm.trans hn')
      exact ⟨_, rfl, _, rfl, fee_log (hf n (List.mem_of_getElem? hn)), k G (Same.refl G)⟩
    · intro D G nD sm hD
      refine ⟨_, D, t.map feeT, rfl, rfl, .inl (.inl (.inl ?_)), join_room (n := 61) (m := 8) ?_ (by decide) (by simpa using hl) (by decide), ?_⟩
      · rw [hD, List.map_map]
        rfl
      · intro y hy
        obtain ⟨i, hi, rfl⟩ := List.mem_map.mp hy
        exact feeT_fit (hf i hi)
      · rw [TL.join_eq]
        exact q G sm

theorem ok_web {f fT fK : Addr} {fd fdT fdK : FuncData} (F : Fun K "web_text" "web_text" (topS 3) f fd) (FK : Fun K "kind_text" "kind_text" (topS 2) fK fdK) (bK : Binds K fdK ["kind"] []) (gK : mg "kind_text" = some (.ref fK))
    (FT : Fun K "table_text" "table_text" (topS 1) fT fdT) (bT : Binds K fdT ["table"] []) (gT : mg "table_text" = some (.ref fT)) (ml : mg "len" = none) : FnOk P w K mg base CX0 3 f fd ["web"] (spWeb K) := by
  have GK : FnOk P w K mg base CX0 2 fK fdK ["kind"] (spKind K) := ok_kind FK FT bT gT ml
  refine F.ok scWeb (fun vs H Q E h => ?_) (fun cdv A outer s H vs Q E hr h => ?_)
  · obtain ⟨v, g, rfl, _⟩ := h
    rfl
  · obtain ⟨v, g, rfl, ⟨p, r, ws, rfl, hp, hr', hE⟩, ok, q⟩ := h
    obtain ⟨o1, o2, o3⟩ := id ok
    have lw := hE.len
    refine ⟨_, pss_cons (ps_asg (pv 0) (pg_tup (by rfl) (pgs_cons (pg_name (i := 1) scWeb.nd rfl (.inl rfl)) (pgs_cons (pg_name (i := 2) scWeb.nd rfl (.inl rfl)) pgs_nil))))
      (pss_cons (ps_setLc (i := 3) (own := [("kind", 4)]) (g := gName 4) (by rfl) scWeb.nd rfl rfl (sw_true rfl rfl rfl (by decide +kernel)) (pi_tup (pv 1)) (blkOk_by (own := [("kind", 4)]) (N := nWeb) (sc := defScope (topS 3)) (by decide +kernel))
        (fun _ _ _ _ _ => pg_name (i := 4) scWeb.nd rfl (Or.inl rfl)) (fun _ _ _ _ _ => pts_nil) (fun _ _ _ _ _ => pe_call GK hr (by rfl) gK FK.kp bK .nil pass0 (pa_cons (pv 4) pa_nil)))
      (pss_one (ps_ret (pe_join pe_str (pe_lst (StX.pa_star (pv 3) (pa_cons (pe_joined (PJ.cons pe_str (PJ.cons (pe_fmt (pv 2)) PJ.nil))) pa_nil))))))), ?_⟩
    refine ⟨.ref p, rfl, p, _, rfl, hp, rfl, _, _, rfl, _, _, rfl, rfl, ?_⟩
    dsimp only
    refine seq_asg ?_
    refine lc_mapT (a := r) (xs := ws) (g.es.map fun e => V.str (lineT e)) (by simp; omega) (by omega) hr' (fun R r => ⟨_, rfl, r⟩) (fun v => rfl) ?_ ?_
    · intro i x y G R hx hy sm k
      obtain ⟨e, he, hv⟩ := hE.get hx
      obtain ⟨e', he', rfl⟩ := map_get hy
      obtain rfl : e = e' := Option.some.inj (he.symm.trans he')
      exact ⟨_, rfl, _, e, rfl, hv.same sm, o2 e (List.mem_of_getElem? he), k G (Same.refl G)⟩
    · intro D G nD sm hD
      have fa := askT_fit ok
      have ea : Str.empty ++ ("asker " : Str) ++ g.asks = ("asker " : Str) ++ g.asks := by rw [nil_app]
      refine ⟨⟨_, rfl⟩, .ref D, rfl, D, _, rfl, .inr (.inl (.inl hD)), _, rfl, ?_, _, rfl, .inl ⟨_, rfl, ?_, _, rfl, ?_, ?_, fun z nz => ?_⟩⟩
      · exact Nat.le_trans (fit_of "asker " (n := 6) (by decide)).1 (Nat.le_of_lt (small' (by decide)))
      · exact Nat.le_trans o3.1 (Nat.le_of_lt (small' (by decide)))
      · show (Str.empty ++ ("asker " : Str) ++ g.asks).length ≤ _
        rw [ea]
        exact Nat.le_trans fa.1 (Nat.le_of_lt (small' (by decide)))
      · refine Nat.le_of_lt (small' ?_)
        simp
        omega
      · refine ⟨_, z, g.es.map lineT ++ [("asker " : Str) ++ g.asks], rfl, rfl, .inl (.inl (.inl ?_)), join_room (n := 600) (m := 13) ?_ (by decide) (by simp; omega) (by decide), ?_⟩
        · rw [upd_same]
          show some (HO.lst (g.es.map (fun e => V.str (lineT e)) ++ [V.str (Str.empty ++ ("asker " : Str) ++ g.asks)])) = _
          rw [ea, List.map_append, List.map_map]
          rfl
        · intro y hy
          rcases List.mem_append.mp hy with hy | hy
          · obtain ⟨e, he, rfl⟩ := List.mem_map.mp hy
            exact lineT_fit (o2 e he)
          · obtain rfl := List.mem_singleton.mp hy
            exact fa
        · rw [TL.join_eq]
          exact q _ (putS sm (sm.free nz))
end
end Kn
namespace Kn
open PySem PySem.Spec PyProof.Rows L2
section
variable {P : Program} {w : World} {K : PySem.W.Frag} {mg : Str → Option Value} {base : Heap}
theorem big_of {n : Nat} {x : Str} (h : Fit n x) (l : n ≤ 100000) : x.length ≤ sizeLine := Nat.le_trans h.1 (Nat.le_trans l (by decide))

theorem ok_join {f : Addr} {fd : FuncData} (F : Fun K "_law_joined" "_law_joined" (topS 11) f fd) (ml : mg "len" = none) (ms : mg "str" = none) : FnOk P w K mg base CX0 1 f fd ["_law_some"] (spJoin K) := by
  refine F.ok scJoin (fun vs H Q E h => ?_) (fun cdv A outer s H vs Q E hr h => ?_)
  · obtain ⟨a, t, rfl, _⟩ := h
    rfl
  · obtain ⟨a, xs, rfl, hT, hl, hf, q⟩ := h
    refine ⟨_, pss_one (ps_ret (pe_ifExp (pt_cmpR op_gt (pe_callB call_len_seq (by rfl) ml PySem.boot_len (pa_cons (pv 0) pa_nil)) pe_int (nomark _))
      (pe_join pe_str (pe_lc (own := [("_law_one", 1)]) (g := gName 1) (by rfl) scJoin.nd (pi_tup (pv 0)) (blkOk_by (own := [("_law_one", 1)]) (N := nJoin) (sc := defScope (topS 11)) (by decide +kernel))
      (fun _ _ _ _ _ => pg_name (i := 1) scJoin.nd rfl (Or.inl rfl)) (fun _ _ _ _ _ => pts_nil) (fun _ _ _ _ _ => pe_callTy call_str_flat (by rfl) ms (by decide +kernel) (pa_cons (pv 1) pa_nil)))) pe_str)), ?_⟩
    refine ⟨.ref a, rfl, a, xs, rfl, .inr hT, _, _, rfl, rfl, _, rfl, ite2 (fun e => ?_) (fun e => ?_)⟩
    · have e0 := of_decide_eq_true e
      have ne : xs ≠ [] := fun z => by
        subst z
        exact absurd e0 (by decide)
      refine ⟨⟨_, rfl⟩, ?_⟩
      refine lc_mapT (a := a) (xs := xs) (xs.map fun v => V.str (shV v)) (by simp) (by omega) hT (fun R r => ⟨.ref a, rfl, r⟩) (fun v => rfl) ?_ ?_
      · intro i x y G R hx hy sm k
        obtain ⟨v, hv, rfl⟩ := map_get hy
        obtain rfl : x = v := Option.some.inj (hx.symm.trans hv)
        exact ⟨_, rfl, _, rfl, (hf x (List.mem_of_getElem? hx)).1, k G (Same.refl G)⟩
      · intro D G nD sm hD
        refine ⟨_, D, xs.map shV, rfl, rfl, .inl (.inl (.inl ?_)), join_room (n := 61) (m := 8) ?_ (by decide) (by simpa using hl) (by decide), ?_⟩
        · rw [hD, List.map_map]
          rfl
        · intro y hy
          obtain ⟨v, hv, rfl⟩ := List.mem_map.mp hy
          exact (hf v hv).2
        · have et : joinT xs = Txt.join "," (xs.map shV) := by
            unfold joinT
            rw [if_neg ne, TL.join_eq]
          rw [← et]
          exact q G sm
    · have et : xs = [] := by
        cases xs with
        | nil => rfl
        | cons x r =>
          refine absurd (decide_eq_true ?_) e
          rw [List.length_cons]
          omega
      subst et
      exact q H (Same.refl H)

theorem ok_line {f fJ : Addr} {fd fdJ : FuncData} (F : Fun K "_law_entry_line" "_law_entry_line" (topS 12) f fd) (FJ : Fun K "_law_joined" "_law_joined" (topS 11) fJ fdJ) (bJ : Binds K fdJ ["_law_some"] []) (gJ : mg "_law_joined" = some (.ref fJ)) (ml : mg "len" = none) (ms : mg "str" = none) :
    FnOk P w K mg base CX0 2 f fd ["_law_entry"] (spLine K) := by
  have GJ : FnOk P w K mg base CX0 1 fJ fdJ ["_law_some"] (spJoin K) := ok_join FJ ml ms
  refine F.ok scLine (fun vs H Q E h => ?_) (fun cdv A outer s H vs Q E hr h => ?_)
  · obtain ⟨v, e, rfl, _⟩ := h
    rfl
  · obtain ⟨v, e, rfl, ⟨p, r, rfl, hp, hq⟩, ⟨k1, k2, k3, k4⟩, q⟩ := h
    refine ⟨_, pss_one (ps_ret (pe_join pe_str (pe_lst (pa_cons pe_str (pa_cons (pe_ix ix_tup (pv 0) pe_int (fun _ _ => rfl)) (pa_cons (pe_callTy call_str_flat (by rfl) ms (by decide +kernel) (pa_cons (pe_ix ix_tup (pv 0) pe_int (fun _ _ => rfl)) pa_nil))
      (pa_cons (pe_ifExp (pt_val (pe_ix ix_tup (pv 0) pe_int (fun _ _ => rfl))) pe_str pe_str) (pa_cons (pe_call GJ hr (by rfl) gJ FJ.kp bJ .nil pass0 (pa_cons (pe_ix ix_tup (pv 0) pe_int (fun _ _ => rfl)) pa_nil)) pa_nil)))))))), ?_⟩
    refine ⟨⟨_, rfl⟩, ?_⟩
    refine ⟨.ref p, rfl, p, _, 0, .str e.name, rfl, rfl, hp, atI_nat (j := 0) rfl, .ref p, rfl, p, _, 1, .int e.fee, rfl, rfl, hp, atI_nat (j := 1) rfl, _, rfl, fee_log k2,
      .ref p, rfl, p, _, 2, .bl e.has, rfl, rfl, hp, atI_nat (j := 2) rfl, e.has, rfl, ?_⟩
    have fw := wordT_fit e.has
    have ff := feeT_fit k2
    have ft := tabT_fit k3 k4
    have el : lineT e = Txt.join " " ["kind", e.name, feeT e.fee, wordT e.has, tabT e.row] := by rw [TL.join_eq]; rfl
    cases hh : e.has
    all_goals
      first | refine iteT ?_ | refine iteF ?_
      refine ⟨.ref p, rfl, p, _, 3, .ref r, rfl, rfl, hp, atI_nat (j := 3) rfl, r, e.row.map V.str, rfl, hq, by simpa using k3, ?_, fun G sm => ⟨show 5 ≤ sizeLine by decide, fun z nz => ?_⟩⟩
      · intro v hv
        obtain ⟨z, hz, rfl⟩ := List.mem_map.mp hv
        exact short_str (k4 z hz)
      · refine ⟨_, z, ["kind", e.name, feeT e.fee, wordT e.has, tabT e.row], rfl, rfl, .inl (.inl (.inl ?_)), join_room (n := 100) (m := 5) ?_ (by decide) (Nat.le_refl 5) (by decide), ?_⟩
        · rw [upd_same, joinT_str, hh]
          rfl
        · intro x hx
          simp only [List.mem_cons, List.not_mem_nil, or_false] at hx
          rcases hx with rfl | rfl | rfl | rfl | rfl
          · exact (fit_of "kind" (n := 100) (by decide))
          · exact k1.mono (by omega)
          · exact ff.mono (by omega)
          · exact fw.mono (by omega)
          · exact ft
        · rw [← el]
          exact q _ (putS sm (sm.free nz))

theorem ok_page {f fL fJ : Addr} {fd fdL fdJ : FuncData} (F : Fun K "_law_page_text" "_law_page_text" (topS 13) f fd) (FL : Fun K "_law_entry_line" "_law_entry_line" (topS 12) fL fdL) (bL : Binds K fdL ["_law_entry"] []) (gL : mg "_law_entry_line" = some (.ref fL))
    (FJ : Fun K "_law_joined" "_law_joined" (topS 11) fJ fdJ) (bJ : Binds K fdJ ["_law_some"] []) (gJ : mg "_law_joined" = some (.ref fJ)) (ml : mg "len" = none) (ms : mg "str" = none) : FnOk P w K mg base CX0 3 f fd ["_law_page_here"] (spWeb K) := by
  have GL : FnOk P w K mg base CX0 2 fL fdL ["_law_entry"] (spLine K) := ok_line FL FJ bJ gJ ml ms
  refine F.ok scPage (fun vs H Q E h => ?_) (fun cdv A outer s H vs Q E hr h => ?_)
  · obtain ⟨v, g, rfl, _⟩ := h
    rfl
  · obtain ⟨v, g, rfl, ⟨p, r, ws, rfl, hp, hr', hE⟩, ok, q⟩ := h
    obtain ⟨o1, o2, o3⟩ := id ok
    have lw := hE.len
    refine ⟨_, pss_cons (ps_setLc (i := 1) (own := [("_law_entry", 2)]) (g := gName 2) (by rfl) scPage.nd rfl rfl (sw_true rfl rfl rfl (by decide +kernel)) (pi_tup (pe_ix ix_tup (pv 0) pe_int (fun _ _ => rfl))) (blkOk_by (own := [("_law_entry", 2)]) (N := nPage) (sc := defScope (topS 13)) (by decide +kernel))
        (fun _ _ _ _ _ => pg_name (i := 2) scPage.nd rfl (Or.inl rfl)) (fun _ _ _ _ _ => pts_nil) (fun _ _ _ _ _ => pe_call GL hr (by rfl) gL FL.kp bL .nil pass0 (pa_cons (pv 2) pa_nil)))
      (pss_one (ps_ret (pe_join pe_str (pe_op op_cat (pv 1) (pe_lst (pa_cons (pe_op op_add_str pe_str (pe_ix ix_tup (pv 0) pe_int (fun _ _ => rfl))) pa_nil)))))), ?_⟩
    refine seq_asg ?_
    refine lc_mapT (a := r) (xs := ws) (g.es.map fun e => V.str (lineT e)) (by simp; omega) (by omega) hr' (fun R k => ⟨.ref p, rfl, p, _, 0, .ref r, rfl, rfl, hp, atI_nat (j := 0) rfl, k⟩) (fun v => rfl) ?_ ?_
    · intro i x y G R hx hy sm k
      obtain ⟨e, he, hv⟩ := hE.get hx
      obtain ⟨e', he', rfl⟩ := map_get hy
      obtain rfl : e = e' := Option.some.inj (he.symm.trans he')
      exact ⟨_, rfl, _, e, rfl, hv.same sm, o2 e (List.mem_of_getElem? he), fun G' s' => k G' s'⟩
    · intro D G nD sm hD
      have fa := askT_fit ok
      refine ⟨⟨_, rfl⟩, .ref D, rfl, .ref p, rfl, p, _, 1, .str g.asks, rfl, rfl, tupS sm hp, atI_nat (j := 1) rfl, _, _, rfl, rfl, ?_, show 1 ≤ sizeLine by decide, fun z nz => ?_⟩
      · exact Nat.le_trans (Nat.add_le_add (fit_of "asker " (n := 6) (by decide)).1 o3.1) (by decide)
      · refine ⟨D, z, _, _, rfl, rfl, by rw [upd_ne (ne_of_none hD nz)]; exact hD, upd_same, ?_, fun y ny => ?_⟩
        · refine Nat.le_of_lt (small' ?_)
          simp
          omega
        · refine ⟨_, y, g.es.map lineT ++ [("asker " : Str) ++ g.asks], rfl, rfl, .inl (.inl (.inl ?_)), join_room (n := 600) (m := 13) ?_ (by decide) (by simp; omega) (by decide), ?_⟩
          · rw [upd_same, List.map_append, List.map_map]
            rfl
          · intro x hx
            rcases List.mem_append.mp hx with hx | hx
            · obtain ⟨e, he, rfl⟩ := List.mem_map.mp hx
              exact lineT_fit (o2 e he)
            · obtain rfl := List.mem_singleton.mp hx
              exact fa
          · rw [TL.join_eq]
            have s1 := putS sm (sm.free nz) (o := .lst [V.str (("asker " : Str) ++ g.asks)])
            exact q _ (putS s1 (Same.free s1 ny))
end
end Kn
namespace Kn
open PySem PySem.Spec PyProof.Rows L2
/-! ### the feed -/
abbrev kCells : Key := .inr "cells"
abbrev kAt : Key := .inr "at"
abbrev kHeld : Key := .inr "held"
abbrev kCount : Key := .inr "count"
theorem d1 : ¬ kCells = kAt := by decide +kernel
theorem d2 : ¬ kCells = kHeld := by decide +kernel
theorem d3 : ¬ kCells = kCount := by decide +kernel
theorem d4 : ¬ kAt = kHeld := by decide +kernel
theorem d5 : ¬ kAt = kCount := by decide +kernel
theorem d6 : ¬ kHeld = kCount := by decide +kernel
structure Four (a : Addr) (t h n : Int) (kvs : List (Key × V)) : Prop where
  few : kvs.length ≤ 4
  cells : valV kvs kCells = some (.ref a)
  at_ : valV kvs kAt = some (.int t)
  held : valV kvs kHeld = some (.int h)
  count : valV kvs kCount = some (.int n)
theorem putK_len {kvs : List (Key × V)} {k : Key} {x v : V} (h : valV kvs k = some x) : (putK kvs k v).length = kvs.length := by
  unfold putK
  rw [if_pos (by rw [valV_any, h]; rfl), List.length_map]
section
variable {a : Addr} {t h n : Int} {kvs : List (Key × V)}
theorem Four.put_at (q : Four a t h n kvs) (x : Int) : Four a x h n (putK kvs kAt (.int x)) :=
  ⟨by rw [putK_len q.at_]; exact q.few, by rw [valV_put, if_neg d1]; exact q.cells, by rw [valV_put, if_pos rfl], by rw [valV_put, if_neg fun e => d4 e.symm]; exact q.held, by rw [valV_put, if_neg fun e => d5 e.symm]; exact q.count⟩
theorem Four.put_held (q : Four a t h n kvs) (x : Int) : Four a t x n (putK kvs kHeld (.int x)) :=
  ⟨by rw [putK_len q.held]; exact q.few, by rw [valV_put, if_neg d2]; exact q.cells, by rw [valV_put, if_neg d4]; exact q.at_, by rw [valV_put, if_pos rfl], by rw [valV_put, if_neg fun e => d6 e.symm]; exact q.count⟩
theorem Four.put_count (q : Four a t h n kvs) (x : Int) : Four a t h x (putK kvs kCount (.int x)) :=
  ⟨by rw [putK_len q.count]; exact q.few, by rw [valV_put, if_neg d3]; exact q.cells, by rw [valV_put, if_neg d5]; exact q.at_, by rw [valV_put, if_neg d6]; exact q.held, by rw [valV_put, if_pos rfl]⟩
theorem four_new (a : Addr) : Four a 0 0 0 (mergeK [] [(kCells, .ref a), (kAt, .int 0), (kHeld, .int 0), (kCount, .int 0)]) := by
  have e : mergeK [] [(kCells, V.ref a), (kAt, .int 0), (kHeld, .int 0), (kCount, .int 0)] = putK (putK (putK (putK [] kCells (.ref a)) kAt (.int 0)) kHeld (.int 0)) kCount (.int 0) := rfl
  refine ⟨length_mergeK _ _, ?_, ?_, ?_, ?_⟩
  · rw [e, valV_put, if_neg d3, valV_put, if_neg d2, valV_put, if_neg d1, valV_put, if_pos rfl]
  · rw [e, valV_put, if_neg d5, valV_put, if_neg d4, valV_put, if_pos rfl]
  · rw [e, valV_put, if_neg d6, valV_put, if_pos rfl]
  · rw [e, valV_put, if_pos rfl]
end
/-- the feed at f, its cells at a; at most c draws were made -/
structure Fd (f a : Addr) (ns : List Int) (H : Hp) (c : Nat) : Prop where
  ex : ∃ kvs t h n, H f = some (.dK kvs) ∧ Four a t h n kvs ∧ 0 ≤ t ∧ t ≤ n ∧ n ≤ (c : Int)
  cl : H a = some (.lst (ns.map V.int))
  few : ns.length ≤ 63
def Keep (f : Addr) (H H' : Hp) : Prop := ∀ b o, b ≠ f → H b = some o → H' b = some o
theorem Keep.refl (f : Addr) (H : Hp) : Keep f H H := fun _ _ _ h => h
theorem Keep.trans {f : Addr} {H H1 H2 : Hp} (a : Keep f H H1) (b : Keep f H1 H2) : Keep f H H2 := fun c o n h => b c o n (a c o n h)
theorem keep_same {f : Addr} {H H1 : Hp} (s : Same H H1) : Keep f H H1 := fun b o _ h => s b o h
theorem keep_upd {f : Addr} {H : Hp} {o : HO} : Keep f H (upd H f o) := fun b x n h => by rw [upd_ne n]; exact h
theorem Fd.more {f a : Addr} {ns : List Int} {H : Hp} {c d : Nat} (h : Fd f a ns H c) (l : c ≤ d) : Fd f a ns H d := by
  obtain ⟨⟨kvs, t, x, n, h1, h2, h3, h4, h5⟩, h6, h7⟩ := h
  exact ⟨⟨kvs, t, x, n, h1, h2, h3, h4, by omega⟩, h6, h7⟩
theorem Fd.same {f a : Addr} {ns : List Int} {H H' : Hp} {c : Nat} (h : Fd f a ns H c) (s : Same H H') : Fd f a ns H' c := by
  obtain ⟨⟨kvs, t, x, n, h1, h2⟩, h6, h7⟩ := h
  exact ⟨⟨kvs, t, x, n, s _ _ h1, h2⟩, s _ _ h6, h7⟩
/-- a list of one's own changes -/
theorem Fd.own {f a D : Addr} {ns : List Int} {H : Hp} {c : Nat} {o : HO} (h : Fd f a ns H c) (n1 : f ≠ D) (n2 : a ≠ D) : Fd f a ns (upd H D o) c := by
  obtain ⟨⟨kvs, t, x, n, h1, h2⟩, h6, h7⟩ := h
  exact ⟨⟨kvs, t, x, n, by rw [upd_ne n1]; exact h1, h2⟩, by rw [upd_ne n2]; exact h6, h7⟩
theorem Fd.ne {f a : Addr} {ns : List Int} {H : Hp} {c : Nat} (h : Fd f a ns H c) : a ≠ f := by
  obtain ⟨⟨kvs, t, x, n, h1, _⟩, h6, _⟩ := h
  exact ne_of h6 h1 (by intro z; cases z)
theorem Fd.free {f a D : Addr} {ns : List Int} {H : Hp} {c : Nat} (h : Fd f a ns H c) (n : H D = none) : f ≠ D ∧ a ≠ D := by
  obtain ⟨⟨kvs, t, x, n', h1, _⟩, h6, _⟩ := h
  exact ⟨ne_of_none h1 n, ne_of_none h6 n⟩
/-- the feed's dict changes -/
theorem Fd.put {f a : Addr} {ns : List Int} {H : Hp} {c : Nat} {kvs : List (Key × V)} {t h n : Int} (q : Fd f a ns H c) (F : Four a t h n kvs) (h0 : 0 ≤ t) (h1 : t ≤ n) (h2 : n ≤ (c : Int)) : Fd f a ns (upd H f (.dK kvs)) c :=
  ⟨⟨kvs, t, h, n, upd_same, F, h0, h1, h2⟩, by rw [upd_ne q.ne]; exact q.cl, q.few⟩

theorem dpAll_ints {K : PySem.W.Frag} {H : Hp} : ∀ ns : List Int, DpAll K H (ns.map V.int) (ns.map PyData.int)
  | [] => .nil
  | n :: r => .cons (.int n) (dpAll_ints r)
end Kn
namespace Kn
open PySem PySem.Spec PyProof.Rows L2
abbrev nDraw : List Str := ["_law_feed", "_law_many", "_law_count", "_law_digit", "_law_cells", "_law_at", "_law_cell", "_law_mixed"]
theorem scDraw : FnScope nDraw ["_law_feed", "_law_many"] (defScope (topS 7)) := ⟨rfl, rfl, rfl, by decide +kernel, rfl, by decide +kernel, by decide +kernel⟩
theorem lay_ints : ∀ ns : List Int, PyData.canLayAll0 (ns.map PyData.int) = true
  | [] => rfl
  | n :: r => by
    show (PyData.canLay0 (.int n) && PyData.canLayAll0 (r.map PyData.int)) = true
    rw [lay_ints r]
    rfl
theorem depth_ints : ∀ ns : List Int, PyData.depthAll (ns.map PyData.int) = 0
  | [] => rfl
  | n :: r => by
    show max (PyData.depth (.int n)) (PyData.depthAll (r.map PyData.int)) = 0
    rw [depth_ints r]
    rfl
theorem shaped_ints (ns : List Int) : SeqAt.shaped (.list (ns.map PyData.int)) = true := by
  unfold SeqAt.shaped
  have h1 : PyData.canLay0 (.list (ns.map PyData.int)) = true := by
    show PyData.canLayAll0 (ns.map PyData.int) = true
    exact lay_ints ns
  have h2 : PyData.depth (.list (ns.map PyData.int)) = 1 := by
    show PyData.depthAll (ns.map PyData.int) + 1 = 1
    rw [depth_ints]
  rw [h1, h2]
  rfl
theorem eqv_nil_ints (ns : List Int) : PyData.eqv (.list (ns.map PyData.int)) (.list []) = ns.isEmpty := by
  cases ns with
  | nil => rfl
  | cons n r => rfl
theorem sq_bound {s : Int} (h0 : 0 ≤ s) (h1 : s ≤ 100001) : 0 ≤ 7079 * s * s ∧ 7079 * s * s ≤ 70791415787079 + 100000000000000 := by
  have a : 0 ≤ 7079 * s := by omega
  have b : 7079 * s ≤ 707907079 := by omega
  have c := Int.mul_nonneg a h0
  have d := Int.mul_le_mul b h1 h0 (by decide : (0 : Int) ≤ 707907079)
  exact ⟨c, Int.le_trans d (by decide)⟩
theorem at_mod {ns : List Int} {t : Int} (h : 0 ≤ t) (pos : 0 < ns.length) : ∃ x : Int, atI (ns.map V.int) (t % ((ns.map V.int).length : Int)) = some (.int x) := by
  rw [List.length_map]
  have h0 := Int.emod_nonneg t (show (ns.length : Int) ≠ 0 by omega)
  have h1 := Int.emod_lt_of_pos t (show (0 : Int) < (ns.length : Int) by omega)
  obtain ⟨j, hj⟩ := Int.eq_ofNat_of_zero_le h0
  rw [hj] at h1 ⊢
  have hl : j < ns.length := by omega
  refine ⟨ns[j], at_of rfl ?_⟩
  rw [List.getElem?_map, List.getElem?_eq_getElem hl]
  rfl
def spDraw : Sp := fun vs H Q _ => ∃ (f a : Addr) (ns : List Int) (c : Nat) (m : Int), vs = [.ref f, .int m] ∧ 0 < m ∧ m ≤ 1000 ∧ Fd f a ns H c ∧ c < 100000 ∧
  ∀ (r : Int) (H' : Hp), 0 ≤ r → r < m → Keep f H H' → Fd f a ns H' (c + 1) → Q (.int r) H'
section
variable {P : Program} {w : World} {K : PySem.W.Frag} {mg : Str → Option Value} {base : Heap}
theorem ok_draw {g : Addr} {fd : FuncData} (F : Fun K "_law_draw" "_law_draw" (topS 7) g fd) (mi : mg "int" = none) (ml : mg "len" = none) : FnOk P w K mg base CX0 1 g fd ["_law_feed", "_law_many"] spDraw := by
  refine F.ok scDraw (fun vs H Q E h => ?_) (fun cdv A outer s H vs Q E hr h => ?_)
  · obtain ⟨f, a, ns, c, m, rfl, _⟩ := h
    rfl
  · obtain ⟨f, a, ns, c, m, rfl, m0, m1, fd0, hc, q⟩ := h
    have hu := hu_of hr
    obtain ⟨kvs, t, hh, n, e1, four, t0, tn, nc⟩ := fd0.ex
    refine ⟨_, pss_cons (ps_set (i := 2) scDraw.nd rfl (.inl rfl) (pe_op op_add (pe_dget hu (pv 0) pe_str (fun _ _ => rfl)) pe_int))
      (pss_cons (ps_dput hu (pv 0) pe_str (pv 2) rfl)
      (pss_cons (ps_if (pt_cmpR op_gt (pe_dget hu (pv 0) pe_str (fun _ _ => rfl)) pe_int (nomark _))
        (pss_cons (ps_set (i := 3) scDraw.nd rfl (.inl rfl) (pe_op op_mod (pe_callTy call_int1 (by rfl) mi boot_int (pa_cons (pe_dget hu (pv 0) pe_str (fun _ _ => rfl)) pa_nil)) (pv 1)))
        (pss_cons (ps_dput hu (pv 0) pe_str (pe_op op_fdivN (pe_dget hu (pv 0) pe_str (fun _ _ => rfl)) (pv 1)) rfl)
        (pss_one (ps_ret (pv 3))))) pss_nil)
      (pss_cons (ps_par (i := 4) (j := 5) (by rfl) scDraw.nd rfl rfl (by decide) rfl rfl (pa_cons (pe_dget hu (pv 0) pe_str (fun _ _ => rfl)) (pa_cons (pe_dget hu (pv 0) pe_str (fun _ _ => rfl)) pa_nil)) (by rfl))
      (pss_cons (ps_dput hu (pv 0) pe_str (pe_op op_add (pv 5) pe_int) rfl)
      (pss_cons (ps_set (i := 6) scDraw.nd rfl (.inl rfl) (pe_ifExp (pt_cmpR (op_neD hr.units) (pv 4) (pe_lst pa_nil) (nomark _))
        (pe_ix ix_list (pv 4) (pe_op op_mod (pe_callTy call_int1 (by rfl) mi boot_int (pa_cons (pv 5) pa_nil)) (pe_callB call_len_seq (by rfl) ml PySem.boot_len (pa_cons (pv 4) pa_nil))) (fun _ _ => rfl)) pe_int))
      (pss_cons (ps_if (PW.pt (pw_and (pt_cmpR op_ge (pv 6) (pe_op op_pow pe_int pe_int) (nomark _)) (pw_and1 (pt_cmpR op_lt (pv 5) (pe_callB call_len_seq (by rfl) ml PySem.boot_len (pa_cons (pv 4) pa_nil)) (nomark _)))))
        (pss_cons (ps_dput hu (pv 0) pe_str (pe_op op_fdivN (pv 6) (pv 1)) rfl)
        (pss_one (ps_ret (pe_op op_mod (pe_callTy call_int1 (by rfl) mi boot_int (pa_cons (pv 6) pa_nil)) (pv 1))))) pss_nil)
      (pss_cons (ps_set (i := 7) scDraw.nd rfl (.inl rfl) (pe_op op_mod (pe_callTy call_int1 (by rfl) mi boot_int (pa_cons (pe_op op_pow
        (pe_op op_add (pe_op op_add (pe_op op_mod (pe_callTy call_int1 (by rfl) mi boot_int (pa_cons (pv 6) pa_nil)) pe_int) (pe_op op_mul pe_int (pv 2))) pe_int) pe_int) pa_nil)) pe_int))
      (pss_cons (ps_set (i := 7) scDraw.nd rfl (.inl rfl) (pe_op op_mod (pe_callTy call_int1 (by rfl) mi boot_int (pa_cons (pe_op op_pow
        (pe_op op_add (pe_op op_add (pv 7) (pe_op op_mul (pe_op op_mul pe_int (pv 2)) (pv 2))) pe_int) pe_int) pa_nil)) pe_int))
      (pss_one (ps_ret (pe_op op_mod (pe_callTy call_int1 (by rfl) mi boot_int (pa_cons (pe_op op_fdiv (pv 7) pe_int) pa_nil)) (pv 1)))))))))))), ?_⟩
    have n0 : 0 ≤ n := Int.le_trans t0 tn
    have dg : ∀ {H : Hp} {kvs : List (Key × V)} {k : Key} {v : V}, H f = some (.dK kvs) → valV kvs k = some v → DGet H f (kV k) (some v) := fun e z => by
      rw [← z]
      exact DGet.k e
    have four2 := four.put_count (n + 1)
    have fd2 : Fd f a ns (upd H f (.dK (putK kvs kCount (.int (n + 1))))) (c + 1) := (fd0.more (Nat.le_succ c)).put four2 t0 (by omega) (by omega)
    -- count
    refine ⟨_, rfl, f, .int n, rfl, dg (k := kCount) e1 four.count, n, 1, rfl, rfl, ?_⟩
    refine ⟨_, rfl, _, rfl, f, _, rfl, DPut.k (k := kCount) e1 (small' (Nat.le_trans four.few (by decide))), ?_⟩
    have k2 : Keep f H (upd H f (.dK (putK kvs kCount (.int (n + 1))))) := keep_upd
    have e2 : (upd H f (.dK (putK kvs kCount (.int (n + 1))))) f = some (.dK (putK kvs kCount (.int (n + 1)))) := upd_same
    generalize upd H f (.dK (putK kvs kCount (.int (n + 1)))) = H2 at fd2 e2 k2 ⊢
    generalize putK kvs kCount (.int (n + 1)) = kv2 at four2 e2
    have fw : 4 ≤ sizeLine := by decide
    have m3 : ∀ x : Int, 0 ≤ x % m ∧ x % m < m := fun x => ⟨Int.emod_nonneg _ (by omega), Int.emod_lt_of_pos _ m0⟩
    have cd : CDivN hh m := ⟨by omega, by omega⟩
    refine ⟨_, rfl, f, .int hh, rfl, dg (k := kHeld) e2 four2.held, hh, 0, rfl, rfl, _, rfl, ite2 (fun _ => ?_) (fun _ => ?_)⟩
    · -- a figure of what is held
      refine ⟨_, rfl, f, .int hh, rfl, dg (k := kHeld) e2 four2.held, .inl ⟨hh, rfl, _, rfl, hh, m, rfl, rfl, m0, ?_⟩⟩
      refine ⟨_, rfl, f, .int hh, rfl, dg (k := kHeld) e2 four2.held, _, rfl, hh, m, rfl, rfl, cd, ?_⟩
      refine ⟨_, rfl, f, _, rfl, DPut.k (k := kHeld) e2 (small' (Nat.le_trans four2.few (by decide))), ?_⟩
      exact ⟨_, rfl, q _ _ (m3 hh).1 (m3 hh).2 (k2.trans keep_upd) (fd2.put (four2.put_held _) t0 (by omega) (by omega))⟩
    · -- the next cell
      refine ⟨_, rfl, f, .ref a, rfl, dg (k := kCells) e2 four2.cells, _, rfl, f, .int t, rfl, dg (k := kAt) e2 four2.at_, _, _, rfl, ?_⟩
      have four3 := four2.put_at (t + 1)
      have fd3 := fd2.put four3 (by omega) (by omega) (by omega)
      have k3 := k2.trans (keep_upd (f := f) (H := H2) (o := .dK (putK kv2 kAt (.int (t + 1)))))
      have e3 : (upd H2 f (.dK (putK kv2 kAt (.int (t + 1))))) f = some (.dK (putK kv2 kAt (.int (t + 1)))) := upd_same
      refine ⟨_, rfl, t, 1, rfl, rfl, _, rfl, f, _, rfl, DPut.k (k := kAt) e2 (small' (Nat.le_trans four2.few (by decide))), ?_⟩
      generalize upd H2 f (.dK (putK kv2 kAt (.int (t + 1)))) = H3 at fd3 e3 k3 ⊢
      generalize putK kv2 kAt (.int (t + 1)) = kv3 at four3 e3
      have cl : SqL K H3 a (ns.map V.int) := .inl (.inl fd3.cl)
      refine ⟨.ref a, rfl, Nat.zero_le _, fun z nz => ⟨.list (ns.map PyData.int), .list [], .lst (.inl (.inl (by rw [upd_ne (fd3.free nz).2]; exact fd3.cl))) (dpAll_ints ns), .lst (.inl (.inl upd_same)) .nil, shaped_ints ns, rfl, _, rfl, ?_⟩⟩
      have k4 : Keep f H (upd H3 z (.lst [])) := k3.trans (keep_same (same_new nz))
      have fd4 : Fd f a ns (upd H3 z (.lst [])) (c + 1) := fd3.own (fd3.free nz).1 (fd3.free nz).2
      have e4 : (upd H3 z (.lst [])) f = some (.dK kv3) := by rw [upd_ne (fd3.free nz).1]; exact e3
      generalize upd H3 z (.lst []) = H4 at k4 fd4 e4 ⊢
      have cl4 : SqL K H4 a (ns.map V.int) := .inl (.inl fd4.cl)
      have s0 : 0 ≤ n + 1 := by omega
      have s1 : n + 1 ≤ 100001 := by omega
      have sq := sq_bound s0 s1
      rw [eqv_nil_ints]
      cases hns : ns.isEmpty
      case' false =>
        have pos : 0 < ns.length := by
          cases ns with
          | nil => cases hns
          | cons _ _ => exact Nat.succ_pos _
        obtain ⟨x, hx⟩ := at_mod (ns := ns) (t := t) t0 pos
        refine iteT ⟨.ref a, rfl, _, rfl, .inl ⟨t, rfl, .ref a, rfl, a, ns.map V.int, rfl, .inl cl4, t, _, rfl, rfl, (by rw [List.length_map]; omega), a, ns.map V.int, _, .int x, rfl, rfl, cl4, hx, ?_⟩⟩
      case' true =>
        refine iteF ?_
        show Ends.nx _ (List.set _ 6 (some (V.int 397))) H4
        generalize (397 : Int) = x
      all_goals
        have tail : ∀ (y : Int), 0 ≤ y → y < 2147483629 → (y + 7079 * (n + 1) * (n + 1) + 257).natAbs < 2 ^ 64 := fun y y0 y1 => by omega
        have head : (x % 1000000207 + 40099 * (n + 1) + 1061).natAbs < 2 ^ 64 := by
          have := Int.emod_nonneg x (show (1000000207 : Int) ≠ 0 by decide)
          have := Int.emod_lt_of_pos x (show (0 : Int) < 1000000207 by decide)
          omega
        have mids : ∀ u : Int, 0 ≤ u % 2147483629 ∧ u % 2147483629 < 2147483629 := fun u => ⟨Int.emod_nonneg _ (by decide), Int.emod_lt_of_pos _ (by decide)⟩
        refine ⟨_, rfl, 10, 18, rfl, rfl, ⟨by decide, by decide, by decide⟩, x, _, rfl, rfl, _, rfl, ite2 (fun _ => ⟨_, rfl, .ref a, rfl, a, _, rfl, .inl cl4, t, _, rfl, rfl, _, rfl, ite2 (fun _ => ?_) (fun _ => ?_)⟩) (fun _ => ?_)⟩
        · refine ⟨_, rfl, _, rfl, x, m, rfl, rfl, ⟨by omega, by omega⟩, _, rfl, f, _, rfl, DPut.k (k := kHeld) e4 (small' (Nat.le_trans four3.few (by decide))), ?_⟩
          exact ⟨_, rfl, .inl ⟨x, rfl, _, rfl, x, m, rfl, rfl, m0, q _ _ (m3 x).1 (m3 x).2 (k4.trans keep_upd) (fd4.put (four3.put_held _) (by omega) (by omega) (by omega))⟩⟩
        all_goals
          refine ⟨_, rfl, .inl ⟨x, rfl, x, _, rfl, rfl, (show (0 : Int) < 1000000207 by decide), _, rfl, _, n + 1, rfl, rfl, .inl ⟨by decide, by decide⟩, _, _, rfl, rfl, _, _, rfl, rfl, _, _, rfl, rfl, ⟨by decide, by decide, head⟩, .inl ⟨_, rfl, _, _, rfl, rfl, (show (0 : Int) < 2147483629 by decide), ?_⟩⟩⟩
          obtain ⟨y0, y1⟩ := mids ((x % 1000000207 + 40099 * (n + 1) + 1061) ^ (2 : Int).toNat)
          refine ⟨_, rfl, _, rfl, _, n + 1, rfl, rfl, .inl ⟨by decide, by decide⟩, _, rfl, _, n + 1, rfl, rfl, .inl ⟨by omega, by omega⟩, _, _, rfl, rfl, _, _, rfl, rfl, _, _, rfl, rfl, ⟨by decide, by decide, tail _ y0 y1⟩, .inl ⟨_, rfl, _, _, rfl, rfl, (show (0 : Int) < 2147483587 by decide), ?_⟩⟩
          exact ⟨_, rfl, _, _, rfl, rfl, ⟨by decide, by decide⟩, .inl ⟨_, rfl, _, rfl, _, m, rfl, rfl, m0, q _ _ (m3 _).1 (m3 _).2 k4 fd4⟩⟩
end
end Kn
namespace Kn
open PySem PySem.Spec PyProof.Rows L2
/-! ### what stays -/
def TS (H H' : Hp) : Prop := (∀ b xs, H b = some (.tup xs) → H' b = some (.tup xs)) ∧ ∀ b o xs, H b = some (.frz o (.tup xs)) → H' b = some (.frz o (.tup xs))
theorem TS.refl (H : Hp) : TS H H := ⟨fun _ _ h => h, fun _ _ _ h => h⟩
theorem TS.trans {H H1 H2 : Hp} (a : TS H H1) (b : TS H1 H2) : TS H H2 := ⟨fun c x h => b.1 c x (a.1 c x h), fun c o x h => b.2 c o x (a.2 c o x h)⟩
theorem ts_same {H H' : Hp} (s : Same H H') : TS H H' := ⟨fun b xs h => s b _ h, fun b o xs h => s b _ h⟩
theorem ts_keep {f : Addr} {H H' : Hp} {kvs : List (Key × V)} (e : H f = some (.dK kvs)) (k : Keep f H H') : TS H H' :=
  ⟨fun b xs h => k b _ (ne_of h e (by intro z; cases z)) h, fun b o xs h => k b _ (ne_of h e (by intro z; cases z)) h⟩
theorem ts_fd {f a : Addr} {ns : List Int} {H H' : Hp} {c : Nat} (d : Fd f a ns H c) (k : Keep f H H') : TS H H' := by
  obtain ⟨⟨kvs, t, x, n, h1, _⟩, _, _⟩ := d
  exact ts_keep h1 k
theorem ts_lst {D : Addr} {H : Hp} {acc : List V} {o : HO} (e : H D = some (.lst acc)) : TS H (upd H D o) :=
  ⟨fun b xs h => by rw [upd_ne (ne_of h e (by intro z; cases z))]; exact h, fun b o xs h => by rw [upd_ne (ne_of h e (by intro z; cases z))]; exact h⟩
theorem tupT {K : PySem.W.Frag} {H H' : Hp} {a : Addr} {xs : List V} (s : TS H H') (h : SqT K H a xs) : SqT K H' a xs := by
  rcases h with (h | ⟨o, h⟩) | h
  · exact .inl (.inl (s.1 _ _ h))
  · exact .inl (.inr ⟨o, s.2 _ _ _ h⟩)
  · exact .inr h
theorem EntAt.ts {K : PySem.W.Frag} {H H' : Hp} {v : V} {e : Ent} (s : TS H H') : EntAt K H v e → EntAt K H' v e := fun ⟨p, q, a, b, c⟩ => ⟨p, q, a, tupT s b, tupT s c⟩
theorem EntsAt.ts {K : PySem.W.Frag} {H H' : Hp} (s : TS H H') : ∀ {vs : List V} {es : List Ent}, EntsAt K H vs es → EntsAt K H' vs es
  | _, _, .nil => .nil
  | _, _, .cons a b => .cons (a.ts s) (EntsAt.ts s b)
theorem PgAt.ts {K : PySem.W.Frag} {H H' : Hp} {v : V} {g : Pg} (s : TS H H') : PgAt K H v g → PgAt K H' v g := fun ⟨p, q, vs, a, b, c, d⟩ => ⟨p, q, vs, a, tupT s b, tupT s c, d.ts s⟩
theorem fd_ne {f a p : Addr} {ns : List Int} {H : Hp} {c : Nat} {xs : List V} (d : Fd f a ns H c) (h : H p = some (.lst xs)) : p ≠ f := by
  obtain ⟨⟨kvs, t, x, n, h1, _⟩, _, _⟩ := d
  exact ne_of h h1 (by intro z; cases z)
theorem seqK {K : PySem.W.Frag} {f a p : Addr} {ns : List Int} {H H' : Hp} {c : Nat} {xs : List V} (d : Fd f a ns H c) (k : Keep f H H') (h : SqL K H p xs) : SqL K H' p xs := by
  obtain ⟨⟨kvs, t, x, n, h1, _⟩, _, _⟩ := d
  rcases h with (h | ⟨o, h⟩) | h
  · exact .inl (.inl (k _ _ (ne_of h h1 (by intro z; cases z)) h))
  · exact .inl (.inr ⟨o, k _ _ (ne_of h h1 (by intro z; cases z)) h⟩)
  · exact .inr h

abbrev nStart : List Str := ["_law_script"]
theorem scStart : FnScope nStart ["_law_script"] (defScope (topS 6)) := ⟨rfl, rfl, rfl, by decide +kernel, rfl, by decide +kernel, by decide +kernel⟩
abbrev nAny : List Str := ["_law_feed", "_law_some"]
theorem scAny : FnScope nAny ["_law_feed", "_law_some"] (defScope (topS 8)) := ⟨rfl, rfl, rfl, by decide +kernel, rfl, by decide +kernel, by decide +kernel⟩
abbrev nLab : List Str := ["_law_feed", "_law_many", "_law_pool", "_law_first", "_law_stride", "_law_k"]
theorem scLab : FnScope nLab ["_law_feed", "_law_many"] (defScope (topS 9)) := ⟨rfl, rfl, rfl, by decide +kernel, rfl, by decide +kernel, by decide +kernel⟩
def spStart (K : PySem.W.Frag) : Sp := fun vs H Q _ => ∃ (s : Addr) (ns : List Int), vs = [.ref s] ∧ SqL K H s (ns.map V.int) ∧ ns.length ≤ 63 ∧
  ∀ (f a : Addr) (ms : List Int) (H' : Hp), H f = none → Same H H' → Fd f a ms H' 0 → Q (.ref f) H'
def spAny (K : PySem.W.Frag) : Sp := fun vs H Q _ => ∃ (f a p : Addr) (ns : List Int) (c : Nat) (xs : List V), vs = [.ref f, .ref p] ∧ Fd f a ns H c ∧ c < 100000 ∧ SqL K H p xs ∧ 0 < xs.length ∧ xs.length ≤ 1000 ∧
  ∀ (x : V) (H' : Hp), x ∈ xs → Keep f H H' → Fd f a ns H' (c + 1) → Q x H'
def pool1 : List Str := ["a", "b", "c", "d", "e", "f", "g"]
def pool2 : List Str := ["ab", "a", "abc", "b", "ba", "z", "abcdefgh"]
def pool3 : List Str := ["kind", "asker", "has", "not", "store", "on", "guard"]
def pool4 : List Str := ["m", "zoo", "keeper", "s", "st", "zz", "note"]
def names : List Str := pool1 ++ pool2 ++ pool3 ++ pool4
theorem names_fit : ∀ y ∈ names, Fit 8 y := by
  have h : ∀ y ∈ names, y.length ≤ 8 ∧ y.cps.toList.all (fun c => decide (c < 16 ^ 8)) = true := by decide +kernel
  intro y hy
  obtain ⟨h1, h2⟩ := h y hy
  exact ⟨h1, fun c hc => of_decide_eq_true (List.all_eq_true.mp h2 c hc)⟩
def spLab : Sp := fun vs H Q _ => ∃ (f a : Addr) (ns : List Int) (c : Nat) (m : Nat), vs = [.ref f, .int m] ∧ m ≤ 7 ∧ Fd f a ns H c ∧ c < 90000 ∧
  ∀ (ys : List Str) (q : Addr) (H' : Hp), H q = none → H' q = some (.lst (ys.map V.str)) → ys.length = m → (∀ y ∈ ys, y ∈ names) → Keep f H H' → Fd f a ns H' (c + 3) → Q (.ref q) H'
section
variable {P : Program} {w : World} {K : PySem.W.Frag} {mg : Str → Option Value} {base : Heap}
theorem ok_start {g : Addr} {fd : FuncData} (F : Fun K "_law_start" "_law_start" (topS 6) g fd) : FnOk P w K mg base CX0 1 g fd ["_law_script"] (spStart K) := by
  refine F.ok scStart (fun vs H Q E h => ?_) (fun cdv A outer s H vs Q E hr h => ?_)
  · obtain ⟨s, ns, rfl, _⟩ := h
    rfl
  · obtain ⟨s, ns, rfl, hS, hl, q⟩ := h
    refine ⟨_, pss_one (ps_ret (pe_disp (pps_cons pe_str (pe_slice sl_list (pv 0) po_none (po_some pe_int)) (pps_cons pe_str pe_int (pps_cons pe_str pe_int (pps_cons pe_str pe_int pps_nil)))) (by rfl) (by rfl) (fun z => by cases z) (by decide))), ?_⟩
    intro f nf
    refine ⟨.ref s, rfl, 63, rfl, s, _, rfl, (same_new nf).seq hS, fun a na => ?_⟩
    have nfa : f ≠ a := ne_of_none (upd_same (H := H) (a := f) (o := .dK [])) na
    have na0 : H a = none := (same_new nf).free na
    refine ⟨by rw [upd_ne nfa]; exact upd_same, [(kCells, .ref a), (kAt, .int 0), (kHeld, .int 0), (kCount, .int 0)], rfl, (show 4 ≤ 15 by decide), ?_⟩
    refine q f a ((ns.drop (HT.sIx (ns.map V.int).length 0 none)).take (HT.sIx (ns.map V.int).length (ns.map V.int).length (some 63) - HT.sIx (ns.map V.int).length 0 none)) _ nf ?_ ⟨⟨_, 0, 0, 0, upd_same, four_new a, by decide, by decide, by decide⟩, ?_, ?_⟩
    · exact putS (putS (same_new nf) na0) nf
    · rw [upd_ne nfa.symm, upd_same]
      unfold cutV
      rw [List.map_take, List.map_drop]
    · rw [List.length_take, List.length_drop]
      omega
theorem ok_any {g gD : Addr} {fd fdD : FuncData} (F : Fun K "_law_any" "_law_any" (topS 8) g fd) (FD : Fun K "_law_draw" "_law_draw" (topS 7) gD fdD) (bD : Binds K fdD ["_law_feed", "_law_many"] []) (mD : mg "_law_draw" = some (.ref gD)) (mi : mg "int" = none) (ml : mg "len" = none) :
    FnOk P w K mg base CX0 2 g fd ["_law_feed", "_law_some"] (spAny K) := by
  have GD : FnOk P w K mg base CX0 1 gD fdD ["_law_feed", "_law_many"] spDraw := ok_draw FD mi ml
  refine F.ok scAny (fun vs H Q E h => ?_) (fun cdv A outer s H vs Q E hr h => ?_)
  · obtain ⟨f, a, p, ns, c, xs, rfl, _⟩ := h
    rfl
  · obtain ⟨f, a, p, ns, c, xs, rfl, fd0, hc, hL, l0, l1, q⟩ := h
    refine ⟨_, pss_one (ps_ret (pe_ix ix_list (pv 1) (pe_call GD hr (by rfl) mD FD.kp bD .nil pass0 (pa_cons (pv 0) (pa_cons (pe_callB call_len_seq (by rfl) ml PySem.boot_len (pa_cons (pv 1) pa_nil)) pa_nil))) (fun _ _ => rfl))), ?_⟩
    refine ⟨.ref p, rfl, .ref f, rfl, .ref p, rfl, p, xs, rfl, .inl hL, f, a, ns, c, _, rfl, by omega, by omega, fd0, hc, fun r H' r0 r1 k fd1 => ?_⟩
    obtain ⟨j, rfl⟩ := Int.eq_ofNat_of_zero_le r0
    have hj : j < xs.length := by omega
    exact ⟨p, xs, _, xs[j], rfl, rfl, seqK fd0 k hL, at_of rfl (List.getElem?_eq_getElem hj), q _ H' (List.getElem_mem hj) k fd1⟩
theorem ok_lab {g gD gA : Addr} {fd fdD fdA : FuncData} (F : Fun K "_law_labels" "_law_labels" (topS 9) g fd) (FA : Fun K "_law_any" "_law_any" (topS 8) gA fdA) (bA : Binds K fdA ["_law_feed", "_law_some"] []) (mA : mg "_law_any" = some (.ref gA))
    (FD : Fun K "_law_draw" "_law_draw" (topS 7) gD fdD) (bD : Binds K fdD ["_law_feed", "_law_many"] []) (mD : mg "_law_draw" = some (.ref gD)) (mi : mg "int" = none) (ml : mg "len" = none) (mr : mg "range" = none) (mo : mg "sorted" = none) :
    FnOk P w K mg base CX0 3 g fd ["_law_feed", "_law_many"] spLab := by
  have GD : FnOk P w K mg base CX0 1 gD fdD ["_law_feed", "_law_many"] spDraw := ok_draw FD mi ml
  have GA : FnOk P w K mg base CX0 2 gA fdA ["_law_feed", "_law_some"] (spAny K) := ok_any FA FD bD mD mi ml
  refine F.ok scLab (fun vs H Q E h => ?_) (fun cdv A outer s H vs Q E hr h => ?_)
  · obtain ⟨f, a, ns, c, m, rfl, _⟩ := h
    rfl
  · obtain ⟨f, a, ns, c, m, rfl, hm, fd0, hc, q⟩ := h
    have hr1 : Room 1 _ := hr.mono (by decide)
    refine ⟨_, pss_cons (ps_set (i := 2) scLab.nd rfl (.inr rfl) (pe_call GA hr (by rfl) mA FA.kp bA .nil pass0 (pa_cons (pv 0) (pa_cons
        (pe_lst (pa_cons (pe_lst (pa_cons pe_str (pa_cons pe_str (pa_cons pe_str (pa_cons pe_str (pa_cons pe_str (pa_cons pe_str (pa_cons pe_str pa_nil))))))))
          (pa_cons (pe_lst (pa_cons pe_str (pa_cons pe_str (pa_cons pe_str (pa_cons pe_str (pa_cons pe_str (pa_cons pe_str (pa_cons pe_str pa_nil))))))))
          (pa_cons (pe_lst (pa_cons pe_str (pa_cons pe_str (pa_cons pe_str (pa_cons pe_str (pa_cons pe_str (pa_cons pe_str (pa_cons pe_str pa_nil))))))))
          (pa_cons (pe_lst (pa_cons pe_str (pa_cons pe_str (pa_cons pe_str (pa_cons pe_str (pa_cons pe_str (pa_cons pe_str (pa_cons pe_str pa_nil)))))))) pa_nil))))) pa_nil))))
      (pss_cons (ps_asg (pe_tup (pa_cons (pe_call GD hr1 (by rfl) mD FD.kp bD .nil pass0 (pa_cons (pv 0) (pa_cons pe_int pa_nil))) (pa_cons (pe_op op_add pe_int (pe_call GD hr1 (by rfl) mD FD.kp bD .nil pass0 (pa_cons (pv 0) (pa_cons pe_int pa_nil)))) pa_nil)))
        (pg_tup (by rfl) (pgs_cons (pg_name (i := 3) scLab.nd rfl (.inr rfl)) (pgs_cons (pg_name (i := 4) scLab.nd rfl (.inr rfl)) pgs_nil))))
      (pss_one (ps_ret (pe_callB cr_sortedS (by rfl) mo (by decide +kernel) (pa_cons (pe_lc (own := [("_law_k", 5)]) (g := gName 5) (by rfl) scLab.nd (pi_range1 (by rfl) mr (pa_cons (pv 1) pa_nil)) (blkOk_by (own := [("_law_k", 5)]) (N := nLab) (sc := defScope (topS 9)) (by decide +kernel))
        (fun _ _ _ _ _ => pg_name (i := 5) scLab.nd rfl (Or.inl rfl)) (fun _ _ _ _ _ => pts_nil) (fun _ _ _ _ _ => pe_ix (r := rIxL K) ix_list (pv 2) (pe_op op_mod (pe_callTy call_int1 (by rfl) mi boot_int (pa_cons (pe_op op_add (pv 3) (pe_op op_mul (pv 5) (pv 4))) pa_nil)) pe_int) (fun _ _ => rfl))) pa_nil))))), ?_⟩
    -- the pools
    refine ⟨.ref f, rfl, (show 7 ≤ sizeLine by decide), fun p1 n1 => ⟨(show 7 ≤ sizeLine by decide), fun p2 n2 => ⟨(show 7 ≤ sizeLine by decide), fun p3 n3 => ⟨(show 7 ≤ sizeLine by decide), fun p4 n4 => ⟨(show 4 ≤ sizeLine by decide), fun p0 n0 => ?_⟩⟩⟩⟩⟩
    have s1 : Same H (upd H p1 (.lst (pool1.map V.str))) := same_new n1
    have s2 : Same _ (upd (upd H p1 (.lst (pool1.map V.str))) p2 (.lst (pool2.map V.str))) := same_new n2
    have s3 : Same _ (upd (upd (upd H p1 (.lst (pool1.map V.str))) p2 (.lst (pool2.map V.str))) p3 (.lst (pool3.map V.str))) := same_new n3
    have s4 : Same _ (upd (upd (upd (upd H p1 (.lst (pool1.map V.str))) p2 (.lst (pool2.map V.str))) p3 (.lst (pool3.map V.str))) p4 (.lst (pool4.map V.str))) := same_new n4
    have s0 : Same _ (upd (upd (upd (upd (upd H p1 (.lst (pool1.map V.str))) p2 (.lst (pool2.map V.str))) p3 (.lst (pool3.map V.str))) p4 (.lst (pool4.map V.str))) p0 (.lst [.ref p1, .ref p2, .ref p3, .ref p4])) := same_new n0
    have e1 := s0 _ _ (s4 _ _ (s3 _ _ (s2 _ _ (upd_same (H := H) (a := p1) (o := .lst (pool1.map V.str))))))
    have e2 := s0 _ _ (s4 _ _ (s3 _ _ (upd_same (a := p2) (o := .lst (pool2.map V.str)))))
    have e3 := s0 _ _ (s4 _ _ (upd_same (a := p3) (o := .lst (pool3.map V.str))))
    have e4 := s0 _ _ (upd_same (a := p4) (o := .lst (pool4.map V.str)))
    have sm := (((s1.trans s2).trans s3).trans s4).trans s0
    have fd5 := fd0.same sm
    refine ⟨f, a, p0, ns, c, [.ref p1, .ref p2, .ref p3, .ref p4], rfl, fd5, by omega, .inl (.inl upd_same), (show 0 < 4 by decide), (show 4 ≤ 1000 by decide), fun x H6 hx k6 fd6 => ?_⟩
    obtain ⟨pp, pool, rfl, ep, lp, hp⟩ : ∃ (pp : Addr) (pool : List Str), x = .ref pp ∧ H6 pp = some (.lst (pool.map V.str)) ∧ pool.length = 7 ∧ ∀ y ∈ pool, y ∈ names := by
      simp only [List.mem_cons, List.not_mem_nil, or_false] at hx
      rcases hx with rfl | rfl | rfl | rfl
      · exact ⟨p1, pool1, rfl, k6 _ _ (fd_ne fd5 e1) e1, rfl, fun y hy => List.mem_append_left _ (List.mem_append_left _ (List.mem_append_left _ hy))⟩
      · exact ⟨p2, pool2, rfl, k6 _ _ (fd_ne fd5 e2) e2, rfl, fun y hy => List.mem_append_left _ (List.mem_append_left _ (List.mem_append_right _ hy))⟩
      · exact ⟨p3, pool3, rfl, k6 _ _ (fd_ne fd5 e3) e3, rfl, fun y hy => List.mem_append_left _ (List.mem_append_right _ hy)⟩
      · exact ⟨p4, pool4, rfl, k6 _ _ (fd_ne fd5 e4) e4, rfl, fun y hy => List.mem_append_right _ hy⟩
    have kk6 : Keep f H H6 := (keep_same sm).trans k6
    clear e1 e2 e3 e4 s1 s2 s3 s4 s0 sm
    -- the two draws
    refine ⟨.ref f, rfl, f, a, ns, c + 1, 7, rfl, by decide, by decide, fd6, by omega, fun r H7 r0 r1 k7 fd7 => ?_⟩
    refine ⟨.ref f, rfl, f, a, ns, c + 2, 6, rfl, by decide, by decide, fd7, by omega, fun u H8 u0 u1 k8 fd8 => ⟨1, u, rfl, rfl, (show 2 ≤ sizeLine by decide), fun t nt => ?_⟩⟩
    refine ⟨t, _, rfl, .inl (.inl upd_same), rfl, _, _, rfl, _, _, rfl, rfl, ?_⟩
    have k9 : Keep f H (upd H8 t (.tup [V.int r, V.int (1 + u)])) := ((kk6.trans k7).trans k8).trans (keep_same (same_new nt))
    have fd9 := fd8.same (same_new (o := .tup [V.int r, V.int (1 + u)]) nt)
    have ep8 := k8 _ _ (fd_ne fd6 ep) (k7 _ _ (fd_ne fd6 ep) ep)
    have ep9 : (upd H8 t (.tup [V.int r, V.int (1 + u)])) pp = some (.lst (pool.map V.str)) := same_new nt _ _ ep8
    generalize upd H8 t (.tup [V.int r, V.int (1 + u)]) = H9 at k9 fd9 ep9 ⊢
    -- the labels
    refine ⟨_, rfl, m, rfl, by omega, by omega, fun D nD => ?_⟩
    refine lc_range (lo := 0) (n := (m : Int).toNat) (fun i G => Same H9 G ∧ ∃ ys : List Str, G D = some (.lst (ys.map V.str)) ∧ ys.length = i ∧ ∀ y ∈ ys, y ∈ names) ⟨same_new nD, [], upd_same, rfl, fun y hy => by cases hy⟩ ?_ ?_
    · rintro i G hi ⟨sG, ys, hD, hl, hy⟩
      rw [Int.toNat_natCast] at hi
      refine ⟨rfl, ?_⟩
      simp only [tYes, ↓reduceIte]
      have z0 := Int.emod_nonneg (r + (0 + (i : Int)) * (1 + u)) (show (7 : Int) ≠ 0 by decide)
      have z1 := Int.emod_lt_of_pos (r + (0 + (i : Int)) * (1 + u)) (show (0 : Int) < 7 by decide)
      obtain ⟨j, hj⟩ := Int.eq_ofNat_of_zero_le z0
      have hjl : j < pool.length := by omega
      refine ⟨_, rfl, _, rfl, _, rfl, _, rfl, _, _, rfl, rfl, .inl ⟨by omega, by omega⟩, _, _, rfl, rfl, .inl ⟨_, rfl, _, _, rfl, rfl, (show (0 : Int) < 7 by decide), pp, pool.map V.str, _, .str pool[j], rfl, rfl, .inl (.inl (sG _ _ ep9)), at_of hj ?_, ys.map V.str, hD, ?_, ?_, ys ++ [pool[j]], ?_, ?_, ?_⟩⟩
      · rw [List.getElem?_map, List.getElem?_eq_getElem hjl]
        rfl
      · rw [List.length_map]
        exact small' (by omega)
      · exact putS sG nD
      · rw [upd_same, List.map_append]
        rfl
      · rw [List.length_append, hl]
        rfl
      · intro y hy'
        rcases List.mem_append.mp hy' with h | h
        · exact hy y h
        · rw [List.mem_singleton.mp h]
          exact hp _ (List.getElem_mem hjl)
    · rintro G ⟨sG, ys, hD, hl, hy⟩
      rw [Int.toNat_natCast] at hl
      refine ⟨D, ys, rfl, .inl (.inl hD), by omega, fun zs p perm _ np => ?_⟩
      have sp := putS (o := .lst (zs.map V.str)) sG (sG.free np)
      refine q zs p _ ?_ upd_same (by rw [perm.length_eq, hl]) (fun y hz => hy y (perm.mem_iff.mp hz)) (k9.trans (keep_same sp)) ((fd9.same sp).more (by omega))
      cases hpH : H p with
      | none => rfl
      | some o =>
        by_cases hpf : p = f
        · subst hpf
          exact absurd rfl ((fd9.same sG).free np).1
        · have := sG _ _ (k9 _ _ hpf hpH)
          rw [np] at this
          cases this
end
end Kn
namespace Kn
open PySem PySem.Spec PyProof.Rows L2
abbrev nPg : List Str := ["_law_feed", "_law_most", "_law_labels_here", "_law_asks", "_law_entries", "_law_label", "_law_holds", "_law_row", "_law_mate"]
theorem scPg : FnScope nPg ["_law_feed", "_law_most"] (defScope (topS 10)) := ⟨rfl, rfl, rfl, by decide +kernel, rfl, by decide +kernel, by decide +kernel⟩
def spPg (K : PySem.W.Frag) : Sp := fun vs H Q _ => ∃ (f a : Addr) (ns : List Int) (c : Nat) (m : Int), vs = [.ref f, .int m] ∧ 0 < m ∧ m ≤ 5 ∧ Fd f a ns H c ∧ c < 80000 ∧
  ∀ (v : V) (g : Pg) (H' : Hp), PgAt K H' v g → g.ok → 0 < g.es.length → g.es.length ≤ 5 → Keep f H H' → Fd f a ns H' (c + 60) → Q v H'
theorem ne_free {f a p : Addr} {ns : List Int} {H G : Hp} {c : Nat} (d : Fd f a ns G c) (k : Keep f H G) (n : G p = none) : H p = none := by
  cases e : H p with
  | none => rfl
  | some o =>
    by_cases hpf : p = f
    · subst hpf
      exact absurd rfl (d.free n).1
    · have := k _ _ hpf e
      rw [n] at this
      cases this
def fees9 : List Int := [1, 1, 1, 2, 3, 9, 10, 12, 10 ^ (59 : Int).toNat]
theorem fees9_ok : ∀ i ∈ fees9, i.natAbs < 10 ^ 60 := by decide +kernel
section
variable {P : Program} {w : World} {K : PySem.W.Frag} {mg : Str → Option Value} {base : Heap}
theorem ok_pg {g gD gA gL : Addr} {fd fdD fdA fdL : FuncData} (F : Fun K "_law_page" "_law_page" (topS 10) g fd)
    (FL : Fun K "_law_labels" "_law_labels" (topS 9) gL fdL) (bL : Binds K fdL ["_law_feed", "_law_many"] []) (mL : mg "_law_labels" = some (.ref gL))
    (FA : Fun K "_law_any" "_law_any" (topS 8) gA fdA) (bA : Binds K fdA ["_law_feed", "_law_some"] []) (mA : mg "_law_any" = some (.ref gA))
    (FD : Fun K "_law_draw" "_law_draw" (topS 7) gD fdD) (bD : Binds K fdD ["_law_feed", "_law_many"] []) (mD : mg "_law_draw" = some (.ref gD)) (mi : mg "int" = none) (ml : mg "len" = none) (mr : mg "range" = none) (mo : mg "sorted" = none) (mt : mg "tuple" = none) :
    FnOk P w K mg base CX0 4 g fd ["_law_feed", "_law_most"] (spPg K) := by
  have GD : FnOk P w K mg base CX0 1 gD fdD ["_law_feed", "_law_many"] spDraw := ok_draw FD mi ml
  have GA : FnOk P w K mg base CX0 2 gA fdA ["_law_feed", "_law_some"] (spAny K) := ok_any FA FD bD mD mi ml
  have GL : FnOk P w K mg base CX0 3 gL fdL ["_law_feed", "_law_many"] spLab := ok_lab FL FA bA mA FD bD mD mi ml mr mo
  refine F.ok scPg (fun vs H Q E h => ?_) (fun cdv A outer s H vs Q E hr h => ?_)
  · obtain ⟨f, a, ns, c, m, rfl, _⟩ := h
    rfl
  · obtain ⟨f, a, ns, c, m, rfl, m0, m1, fd0, hc, q⟩ := h
    have hr1 : Room 1 _ := hr.mono (by decide)
    have hr2 : Room 2 _ := hr.mono (by decide)
    refine ⟨_, pss_cons (ps_set (i := 2) scPg.nd rfl (.inl rfl) (pe_call GL hr (by rfl) mL FL.kp bL .nil pass0 (pa_cons (pv 0) (pa_cons (pe_op op_add pe_int (pe_call GD hr1 (by rfl) mD FD.kp bD .nil pass0 (pa_cons (pv 0) (pa_cons (pv 1) pa_nil)))) pa_nil))))
      (pss_cons (ps_par (i := 3) (j := 4) (by rfl) scPg.nd rfl rfl (by decide) rfl rfl (pa_cons (pe_call GA hr2 (by rfl) mA FA.kp bA .nil pass0 (pa_cons (pv 0) (pa_cons (pv 2) pa_nil))) (pa_cons (pe_lst pa_nil) pa_nil)) (by rfl))
      (pss_cons (ps_for PassesOwn.never rfl (pi_list (pv 2)) (pg_name (i := 5) scPg.nd rfl (.inl rfl))
        (pss_cons (ps_set (i := 6) scPg.nd rfl (.inl rfl) (pe_and (pe_cmpR op_eq (pe_call GD hr1 (by rfl) mD FD.kp bD .nil pass0 (pa_cons (pv 0) (pa_cons pe_int pa_nil))) pe_int (nomark _)) (pe_one (pe_cmpR op_ne (pv 5) (pv 3) (nomark _)))))
        (pss_cons (ps_setLc (i := 7) (own := [("_law_mate", 8)]) (g := gName 8) (by rfl) scPg.nd rfl rfl (sw_true rfl rfl rfl (by decide +kernel)) (pi_list (pv 2)) (blkOk_by (own := [("_law_mate", 8)]) (N := nPg) (sc := defScope (topS 10)) (by decide +kernel))
          (fun _ _ _ _ _ => pg_name (i := 8) scPg.nd rfl (Or.inl rfl)) (fun _ _ _ _ _ => pts_one (pt_cmpR op_eq (pe_call GD hr1 (by rfl) mD FD.kp bD .nil pass0 (pa_cons (pv 0) (pa_cons pe_int pa_nil))) pe_int (nomark _))) (fun _ _ _ _ _ => pv 8))
        (pss_one (ps_expr (pe_bm PySem.F.plainAttrs_list PySem.F.slot_list_append PySem.F.type_list_append mt_append (pv 4) (pa_cons (pe_tup (pa_cons (pv 5)
          (pa_cons (pe_call GA hr2 (by rfl) mA FA.kp bA .nil pass0 (pa_cons (pv 0) (pa_cons (pe_lst (pa_cons pe_int (pa_cons pe_int (pa_cons pe_int (pa_cons pe_int (pa_cons pe_int (pa_cons pe_int (pa_cons pe_int (pa_cons pe_int (pa_cons (pe_op op_pow pe_int pe_int) pa_nil)))))))))) pa_nil)))
          (pa_cons (pv 6) (pa_cons (pe_callTy call_tuple_of (by rfl) mt boot_tuple (pa_cons (pv 7) pa_nil)) pa_nil))))) pa_nil)))))))
      (pss_one (ps_ret (pe_tup (pa_cons (pe_callTy call_tuple_of (by rfl) mt boot_tuple (pa_cons (pv 4) pa_nil)) (pa_cons (pv 3) pa_nil))))))), ?_⟩
    -- the labels
    refine ⟨.ref f, rfl, .ref f, rfl, _, rfl, f, a, ns, c, m, rfl, m0, by omega, fd0, by omega, fun r H1 r0 r1 k1 fd1 => ⟨1, r, rfl, rfl, ?_⟩⟩
    obtain ⟨j, rfl⟩ := Int.eq_ofNat_of_zero_le r0
    refine ⟨f, a, ns, c + 1, 1 + j, ?_, by omega, fd1, by omega, fun ys L H2 nL eL lL hL k2 fd2 => ?_⟩
    · show [V.ref f, V.int (1 + (j : Int))] = [V.ref f, V.int ((1 + j : Nat) : Int)]
      rw [Int.natCast_add]
      rfl
    -- who asks
    refine ⟨.ref f, rfl, .ref L, rfl, f, a, L, ns, c + 4, ys.map V.str, rfl, fd2, by omega, .inl (.inl eL), by rw [List.length_map]; omega, by rw [List.length_map]; omega, fun x H3 hx k3 fd3 => ⟨Nat.zero_le _, fun En nEn => ?_⟩⟩
    obtain ⟨asks, hasks, rfl⟩ := List.mem_map.mp hx
    refine ⟨_, _, rfl, ?_⟩
    have kA : Keep f H (upd H3 En (.lst [])) := ((k1.trans k2).trans k3).trans (keep_same (same_new nEn))
    have fdA : Fd f a ns (upd H3 En (.lst [])) (c + 5) := fd3.same (same_new nEn)
    have eL3 := k3 _ _ (fd_ne fd2 eL) eL
    have eLA : (upd H3 En (.lst [])) L = some (.lst (ys.map V.str)) := same_new nEn _ _ eL3
    have nEL : En ≠ L := (ne_of_none eL3 nEn).symm
    have eEn : (upd H3 En (.lst [])) En = some (.lst []) := upd_same
    have nfa := fd3.free nEn
    have n0E : H En = none := ne_free fd3 ((k1.trans k2).trans k3) nEn
    generalize upd H3 En (.lst []) = H4 at kA fdA eLA eEn ⊢
    -- the loop
    refine ⟨_, rfl, L, rfl, ⟨_, .inl (.inl eLA)⟩, for_list (K := K) (a := L) (xs := ys.map V.str) (fun i σ G => ∃ y5 y6 y7 y8, σ = [some (.ref f), some (.int m), some (.ref L), some (.str asks), some (.ref En), y5, y6, y7, y8] ∧ Keep f H G ∧ Fd f a ns G (c + 5 + 7 * i) ∧
      G L = some (.lst (ys.map V.str)) ∧ ∃ ws es, G En = some (.lst ws) ∧ EntsAt K G ws es ∧ es.length = i ∧ ∀ e ∈ es, e.ok)
      ⟨none, none, none, none, rfl, kA, fdA, eLA, [], [], eEn, .nil, rfl, fun e he => by cases he⟩ (fun i σ G _ ⟨_, _, _, _, _, _, _, h, _⟩ => .inl (.inl h)) ?_ ?_⟩
    · rintro i x σ G hx ⟨y5, y6, y7, y8, rfl, kG, fdG, eLG, ws, es, eEG, hE, lE, okE⟩
      have hi : i < (ys.map V.str).length := (List.getElem?_eq_some_iff.mp hx).1
      rw [List.length_map] at hi
      obtain ⟨y, hy, rfl⟩ := map_get hx
      have hyn := hL y (List.mem_of_getElem? hy)
      refine ⟨.ref f, rfl, f, a, ns, _, 3, rfl, by decide, by decide, fdG, by omega, fun r5 G5 _ _ k5 fd5 => ⟨rfl, _, rfl, ite2 (fun _ => ?_) (fun _ => ?_)⟩⟩
      case' refine_1 =>
        refine ⟨_, rfl, _, rfl, rfl, ?_⟩
        generalize (!decide (V.str y = V.str asks)) = hb
      case' refine_2 =>
        show Ends.nx _ (List.set _ 6 (some (V.bl (false && true)))) _
        generalize (false && true) = hb
      all_goals
        have e5L := k5 _ _ (fd_ne fdG eLG) eLG
        have e5E := k5 _ _ (fd_ne fdG eEG) eEG
        have hE5 := hE.ts (ts_fd fdG k5)
        dsimp only
        refine seq_asg ?_
        refine ⟨.ref L, rfl, L, rfl, ⟨_, .inl (.inl e5L)⟩, fun D nD => ?_⟩
        have nDf := fd5.free nD
        have nDE : En ≠ D := ne_of_none e5E nD
        refine lc_list (K := K) (a := L) (xs := ys.map V.str) (fun k G6 => Keep f G5 G6 ∧ Fd f a ns G6 (c + 6 + 7 * i + k) ∧ ∃ zs : List Str, G6 D = some (.lst (zs.map V.str)) ∧ zs.length ≤ k ∧ ∀ z ∈ zs, z ∈ names)
          ⟨keep_same (same_new nD), (fd5.same (same_new nD)).more (by omega), [], upd_same, Nat.le_refl _, fun z hz => by cases hz⟩ (fun k G6 _ h => .inl (.inl (h.1 _ _ (fd_ne fd5 e5L) e5L))) ?_ ?_
        · rintro k v G6 hv ⟨k6, fd6, zs, eD, lz, hz⟩
          have hk : k < (ys.map V.str).length := (List.getElem?_eq_some_iff.mp hv).1
          rw [List.length_map] at hk
          obtain ⟨z, hzy, rfl⟩ := map_get hv
          refine ⟨rfl, ?_⟩
          refine ⟨.ref f, rfl, f, a, ns, _, 3, rfl, by decide, by decide, fd6, by omega, fun r7 G7 _ _ k7 fd7 => ⟨rfl, _, rfl, ?_⟩⟩
          have e7D := k7 _ _ (fd_ne fd6 eD) eD
          have k57 : Keep f G5 G7 := k6.trans k7
          refine ite2 (fun _ => ?_) (fun _ => ?_)
          · refine ⟨_, rfl, zs.map V.str, e7D, by rw [List.length_map]; exact small' (by omega), fun b o nb hb => ?_, (fd7.own nDf.1 nDf.2).more (by omega), zs ++ [z], ?_, ?_, ?_⟩
            · rw [upd_ne (ne_of_none hb nD)]
              exact k57 b o nb hb
            · rw [upd_same, List.map_append]
              rfl
            · rw [List.length_append, List.length_singleton]
              omega
            · intro u hu
              rcases List.mem_append.mp hu with h | h
              · exact hz u h
              · rw [List.mem_singleton.mp h]
                exact hL z (List.mem_of_getElem? hzy)
          · exact ⟨k57, fd7.more (by omega), zs, e7D, by omega, hz⟩
        · rintro G6 ⟨k6, fd6, zs, eD, lz, hz⟩
          rw [List.length_map] at fd6 lz
          have e6E := k6 _ _ (fd_ne fd5 e5E) e5E
          have e6L := k6 _ _ (fd_ne fd5 e5L) e5L
          have hE6 := hE5.ts (ts_fd fd5 k6)
          -- entries.append
          refine ⟨.ref En, rfl, .inl ⟨rfl, _, .inl (.inl e6E)⟩, _, rfl, .ref f, rfl, 10, 59, rfl, rfl, ⟨by decide, by decide, by decide⟩, (show 9 ≤ sizeLine by decide), fun pl npl => ?_⟩
          refine ⟨f, a, pl, ns, c + 11 + 7 * i, fees9.map V.int, rfl, (fd6.same (same_new npl)).more (by omega), by omega, .inl (.inl upd_same), (show 0 < 9 by decide), (show 9 ≤ 1000 by decide), fun x7 G7 hx7 k7 fd7 => ?_⟩
          obtain ⟨fee, hfee, rfl⟩ := List.mem_map.mp hx7
          have fd6p := fd6.same (same_new (o := .lst (fees9.map V.int)) npl)
          have e6pE := same_new (o := .lst (fees9.map V.int)) npl _ _ e6E
          have e7E := k7 _ _ (fd_ne fd6p e6pE) e6pE
          have e6pL := same_new (o := .lst (fees9.map V.int)) npl _ _ e6L
          have e7L := k7 _ _ (fd_ne fd6p e6pL) e6pL
          have e6pD := same_new (o := .lst (fees9.map V.int)) npl _ _ eD
          have e7D := k7 _ _ (fd_ne fd6p e6pD) e6pD
          have hE7 := hE6.ts ((ts_same (same_new npl)).trans (ts_fd fd6p k7))
          have kk7 : Keep f H G7 := (((kG.trans k5).trans k6).trans (keep_same (same_new npl))).trans k7
          refine ⟨_, rfl, _, rfl, D, zs.map V.str, rfl, .inl ⟨.inl (.inl e7D), fun tr ntr => ⟨(show 4 ≤ sizeLine by decide), fun tp ntp => ?_⟩⟩⟩
          have sR : Same G7 (upd G7 tr (.tup (zs.map V.str))) := same_new ntr
          have sP : Same _ (upd (upd G7 tr (.tup (zs.map V.str))) tp (.tup [.str y, .int fee, .bl hb, .ref tr])) := same_new ntp
          have eR := sP _ _ (upd_same (H := G7) (a := tr) (o := .tup (zs.map V.str)))
          have eP : (upd (upd G7 tr (.tup (zs.map V.str))) tp (.tup [.str y, .int fee, .bl hb, .ref tr])) tp = some (.tup [.str y, .int fee, .bl hb, .ref tr]) := upd_same
          have sm := sR.trans sP
          generalize upd (upd G7 tr (.tup (zs.map V.str))) tp (.tup [.str y, .int fee, .bl hb, .ref tr]) = G8 at sm eR eP ⊢
          have e8E := sm _ _ e7E
          have e8L := sm _ _ e7L
          refine ⟨En, ws, _, rfl, rfl, e8E, by rw [hE.len]; exact small' (by omega), ?_⟩
          refine ⟨_, _, _, _, rfl, fun b o nb hb' => ?_, ((fd7.same sm).own nfa.1 nfa.2).more (by omega), ?_, ws ++ [.ref tp], es ++ [⟨y, fee, hb, zs⟩], upd_same, ?_, ?_, ?_⟩
          · rw [upd_ne (ne_of_none hb' n0E)]
            exact sm _ _ (kk7 b o nb hb')
          · rw [upd_ne nEL.symm]
            exact e8L
          · refine (hE7.ts ((ts_same sm).trans (ts_lst e8E))).append (.cons ⟨tp, tr, rfl, ?_, ?_⟩ .nil)
            · exact tupT (ts_lst e8E) (.inl (.inl eP))
            · exact tupT (ts_lst e8E) (.inl (.inl eR))
          · rw [List.length_append, lE]
            rfl
          · intro e he
            rcases List.mem_append.mp he with h | h
            · exact okE e h
            · rw [List.mem_singleton.mp h]
              exact ⟨names_fit y hyn, fees9_ok fee hfee, by show zs.length ≤ 8; omega, fun z hz' => names_fit z (hz z hz')⟩
    · rintro σ G ⟨y5, y6, y7, y8, rfl, kG, fdG, eLG, ws, es, eEG, hE, lE, okE⟩
      rw [List.length_map] at lE fdG
      refine ⟨.ref En, rfl, En, ws, rfl, .inl ⟨.inl (.inl eEG), fun te nte => ⟨_, rfl, (show 2 ≤ sizeLine by decide), fun tp ntp => ?_⟩⟩⟩
      have sR : Same G (upd G te (.tup ws)) := same_new nte
      have sP : Same _ (upd (upd G te (.tup ws)) tp (.tup [.ref te, .str asks])) := same_new ntp
      have sm := sR.trans sP
      exact q (.ref tp) ⟨es, asks⟩ _ ⟨tp, te, ws, rfl, .inl (.inl upd_same), .inl (.inl (sP _ _ upd_same)), hE.same sm⟩ ⟨by show es.length ≤ 12; omega, okE, names_fit asks (hL asks hasks)⟩ (by show 0 < es.length; omega) (by show es.length ≤ 5; omega) (kG.trans (keep_same sm)) ((fdG.same sm).more (by omega))
end
end Kn
namespace Kn
open PySem PySem.Spec PyProof.Rows L2
abbrev nCts : List Str := ["_law_feed", "_law_some", "_law_k"]
theorem scCts : FnScope nCts ["_law_feed"] (defScope (topS 15)) := ⟨rfl, rfl, rfl, by decide +kernel, rfl, by decide +kernel, by decide +kernel⟩
abbrev nEnt : List Str := ["_law_feed", "_law_labels_here", "_law_row", "_law_label"]
theorem scEnt : FnScope nEnt ["_law_feed"] (defScope (topS 16)) := ⟨rfl, rfl, rfl, by decide +kernel, rfl, by decide +kernel, by decide +kernel⟩
def spCts (K : PySem.W.Frag) : Sp := fun vs H Q _ => ∃ (f a : Addr) (ns : List Int) (c : Nat), vs = [.ref f] ∧ Fd f a ns H c ∧ c < 80000 ∧
  ∀ (p : Addr) (ks : List Int) (H' : Hp), SqT K H' p (ks.map V.int) → 0 < ks.length → ks.length ≤ 6 → (∀ i ∈ ks, i.natAbs < 10 ^ 60) → Keep f H H' → Fd f a ns H' (c + 10) → Q (.ref p) H'
def spEnt (K : PySem.W.Frag) : Sp := fun vs H Q _ => ∃ (f a : Addr) (ns : List Int) (c : Nat), vs = [.ref f] ∧ Fd f a ns H c ∧ c < 80000 ∧
  ∀ (v : V) (e : Ent) (H' : Hp), EntAt K H' v e → e.ok → Keep f H H' → Fd f a ns H' (c + 20) → Q v H'
def nums9 : List Int := [1, 2, 9, 10, 11, 99, 100, 12345, 10 ^ (59 : Int).toNat]
theorem nums9_ok : ∀ i ∈ nums9, i.natAbs < 10 ^ 60 := by decide +kernel
def fees4 : List Int := [1, 3, 10, 10 ^ (59 : Int).toNat]
theorem fees4_ok : ∀ i ∈ fees4, i.natAbs < 10 ^ 60 := by decide +kernel
section
variable {P : Program} {w : World} {K : PySem.W.Frag} {mg : Str → Option Value} {base : Heap}
theorem ok_cts {g gD gA : Addr} {fd fdD fdA : FuncData} (F : Fun K "_law_counts" "_law_counts" (topS 15) g fd)
    (FA : Fun K "_law_any" "_law_any" (topS 8) gA fdA) (bA : Binds K fdA ["_law_feed", "_law_some"] []) (mA : mg "_law_any" = some (.ref gA))
    (FD : Fun K "_law_draw" "_law_draw" (topS 7) gD fdD) (bD : Binds K fdD ["_law_feed", "_law_many"] []) (mD : mg "_law_draw" = some (.ref gD)) (mi : mg "int" = none) (ml : mg "len" = none) (mr : mg "range" = none) (mt : mg "tuple" = none) :
    FnOk P w K mg base CX0 3 g fd ["_law_feed"] (spCts K) := by
  have GD : FnOk P w K mg base CX0 1 gD fdD ["_law_feed", "_law_many"] spDraw := ok_draw FD mi ml
  have GA : FnOk P w K mg base CX0 2 gA fdA ["_law_feed", "_law_some"] (spAny K) := ok_any FA FD bD mD mi ml
  refine F.ok scCts (fun vs H Q E h => ?_) (fun cdv A outer s H vs Q E hr h => ?_)
  · obtain ⟨f, a, ns, c, rfl, _⟩ := h
    rfl
  · obtain ⟨f, a, ns, c, rfl, fd0, hc, q⟩ := h
    have hr1 : Room 1 _ := hr.mono (by decide)
    refine ⟨_, pss_cons (ps_set (i := 1) scCts.nd rfl (.inr rfl) (pe_lst (pa_cons pe_int (pa_cons pe_int (pa_cons pe_int (pa_cons pe_int (pa_cons pe_int (pa_cons pe_int (pa_cons pe_int (pa_cons pe_int (pa_cons (pe_op op_pow pe_int pe_int) pa_nil)))))))))))
      (pss_one (ps_ret (pe_callTy call_tuple_of (by rfl) mt boot_tuple (pa_cons (pe_lc (own := [("_law_k", 2)]) (g := gName 2) (by rfl) scCts.nd (pi_range1 (by rfl) mr (pa_cons (pe_op op_add pe_int (pe_call GD hr1 (by rfl) mD FD.kp bD .nil pass0 (pa_cons (pv 0) (pa_cons pe_int pa_nil)))) pa_nil)) (blkOk_by (own := [("_law_k", 2)]) (N := nCts) (sc := defScope (topS 15)) (by decide +kernel))
        (fun _ _ _ _ _ => pg_name (i := 2) scCts.nd rfl (Or.inl rfl)) (fun _ _ _ _ _ => pts_nil) (fun _ _ _ _ _ => pe_call GA hr (by rfl) mA FA.kp bA .nil pass0 (pa_cons (pv 0) (pa_cons (pv 1) pa_nil)))) pa_nil)))), ?_⟩
    refine ⟨10, 59, rfl, rfl, ⟨by decide, by decide, by decide⟩, (show 9 ≤ sizeLine by decide), fun L nL => ?_⟩
    have eL : (upd H L (.lst (nums9.map V.int))) L = some (.lst (nums9.map V.int)) := upd_same
    have s0 : Same H (upd H L (.lst (nums9.map V.int))) := same_new nL
    have fd1 := fd0.same s0
    generalize hH1 : upd H L (.lst (nums9.map V.int)) = H1 at eL s0 fd1
    have hH1' : upd H L (.lst [V.int 1, V.int 2, V.int 9, V.int 10, V.int 11, V.int 99, V.int 100, V.int 12345, V.int (10 ^ (59 : Int).toNat)]) = H1 := hH1
    refine ⟨.ref f, rfl, f, a, ns, c, 6, rfl, by decide, by decide, ?_, by omega, ?_⟩
    · exact hH1' ▸ fd1
    intro r H2 r0 r1 k2' fd2
    have k2 : Keep f H1 H2 := hH1' ▸ k2'
    have eL2 := k2 _ _ (fd_ne fd1 eL) eL
    refine ⟨1, r, rfl, rfl, _, rfl, by omega, by omega, fun D nD => ?_⟩
    have kA : Keep f H H2 := (keep_same s0).trans k2
    have nDf := fd2.free nD
    refine lc_range (lo := 0) (n := (1 + r).toNat) (fun i G => Keep f H2 G ∧ Fd f a ns G (c + 1 + i) ∧ ∃ ks : List Int, G D = some (.lst (ks.map V.int)) ∧ ks.length = i ∧ ∀ k ∈ ks, k.natAbs < 10 ^ 60)
      ⟨keep_same (same_new nD), fd2.same (same_new nD), [], upd_same, rfl, fun k hk => by cases hk⟩ ?_ ?_
    · rintro i G hi ⟨kG, fdG, ks, eD, lk, hk⟩
      refine ⟨rfl, ?_⟩
      simp only [tYes, ↓reduceIte]
      refine ⟨_, rfl, _, rfl, f, a, L, ns, c + 1 + i, nums9.map V.int, rfl, fdG, by omega, .inl (.inl (kG _ _ (fd_ne fd2 eL2) eL2)), (show 0 < 9 by decide), (show 9 ≤ 1000 by decide), fun x G' hx k' fd' => ?_⟩
      obtain ⟨n, hn, rfl⟩ := List.mem_map.mp hx
      refine ⟨ks.map V.int, k' _ _ (fd_ne fdG eD) eD, by rw [List.length_map]; exact small' (by omega), fun b o nb hb => ?_, (fd'.own nDf.1 nDf.2).more (by omega), ks ++ [n], ?_, ?_, ?_⟩
      · rw [upd_ne (ne_of_none hb nD)]
        exact k' _ _ nb (kG _ _ nb hb)
      · rw [upd_same, List.map_append]
        rfl
      · rw [List.length_append, lk]
        rfl
      · intro k hk'
        rcases List.mem_append.mp hk' with h | h
        · exact hk k h
        · rw [List.mem_singleton.mp h]
          exact nums9_ok n hn
    · rintro G ⟨kG, fdG, ks, eD, lk, hk⟩
      refine ⟨D, ks.map V.int, rfl, .inl ⟨.inl (.inl eD), fun p np => ?_⟩⟩
      exact q p ks _ (.inl (.inl upd_same)) (by omega) (by omega) hk ((kA.trans kG).trans (keep_same (same_new np))) ((fdG.same (same_new np)).more (by omega))

theorem ok_ent {g gD gA gL : Addr} {fd fdD fdA fdL : FuncData} (F : Fun K "_law_any_entry" "_law_any_entry" (topS 16) g fd)
    (FL : Fun K "_law_labels" "_law_labels" (topS 9) gL fdL) (bL : Binds K fdL ["_law_feed", "_law_many"] []) (mL : mg "_law_labels" = some (.ref gL))
    (FA : Fun K "_law_any" "_law_any" (topS 8) gA fdA) (bA : Binds K fdA ["_law_feed", "_law_some"] []) (mA : mg "_law_any" = some (.ref gA))
    (FD : Fun K "_law_draw" "_law_draw" (topS 7) gD fdD) (bD : Binds K fdD ["_law_feed", "_law_many"] []) (mD : mg "_law_draw" = some (.ref gD)) (mi : mg "int" = none) (ml : mg "len" = none) (mr : mg "range" = none) (mo : mg "sorted" = none) (mt : mg "tuple" = none) :
    FnOk P w K mg base CX0 4 g fd ["_law_feed"] (spEnt K) := by
  have GD : FnOk P w K mg base CX0 1 gD fdD ["_law_feed", "_law_many"] spDraw := ok_draw FD mi ml
  have GA : FnOk P w K mg base CX0 2 gA fdA ["_law_feed", "_law_some"] (spAny K) := ok_any FA FD bD mD mi ml
  have GL : FnOk P w K mg base CX0 3 gL fdL ["_law_feed", "_law_many"] spLab := ok_lab FL FA bA mA FD bD mD mi ml mr mo
  refine F.ok scEnt (fun vs H Q E h => ?_) (fun cdv A outer s H vs Q E hr h => ?_)
  · obtain ⟨f, a, ns, c, rfl, _⟩ := h
    rfl
  · obtain ⟨f, a, ns, c, rfl, fd0, hc, q⟩ := h
    have hr1 : Room 1 _ := hr.mono (by decide)
    have hr2 : Room 2 _ := hr.mono (by decide)
    refine ⟨_, pss_cons (ps_set (i := 1) scEnt.nd rfl (.inl rfl) (pe_call GL hr (by rfl) mL FL.kp bL .nil pass0 (pa_cons (pv 0) (pa_cons (pe_op op_add pe_int (pe_call GD hr1 (by rfl) mD FD.kp bD .nil pass0 (pa_cons (pv 0) (pa_cons pe_int pa_nil)))) pa_nil))))
      (pss_cons (ps_setLc (i := 2) (own := [("_law_label", 3)]) (g := gName 3) (by rfl) scEnt.nd rfl rfl (sw_true rfl rfl rfl (by decide +kernel)) (pi_list (pv 1)) (blkOk_by (own := [("_law_label", 3)]) (N := nEnt) (sc := defScope (topS 16)) (by decide +kernel))
          (fun _ _ _ _ _ => pg_name (i := 3) scEnt.nd rfl (Or.inl rfl)) (fun _ _ _ _ _ => pts_one (pt_cmpR op_eq (pe_call GD hr1 (by rfl) mD FD.kp bD .nil pass0 (pa_cons (pv 0) (pa_cons pe_int pa_nil))) pe_int (nomark _))) (fun _ _ _ _ _ => pv 3))
      (pss_one (ps_ret (pe_tup (pa_cons (pe_call GA hr2 (by rfl) mA FA.kp bA .nil pass0 (pa_cons (pv 0) (pa_cons (pv 1) pa_nil)))
        (pa_cons (pe_call GA hr2 (by rfl) mA FA.kp bA .nil pass0 (pa_cons (pv 0) (pa_cons (pe_lst (pa_cons pe_int (pa_cons pe_int (pa_cons pe_int (pa_cons (pe_op op_pow pe_int pe_int) pa_nil))))) pa_nil)))
        (pa_cons (pe_cmpR op_eq (pe_call GD hr1 (by rfl) mD FD.kp bD .nil pass0 (pa_cons (pv 0) (pa_cons pe_int pa_nil))) pe_int (nomark _))
        (pa_cons (pe_callTy call_tuple_of (by rfl) mt boot_tuple (pa_cons (pv 2) pa_nil)) pa_nil)))))))), ?_⟩
    -- the labels
    refine ⟨.ref f, rfl, .ref f, rfl, f, a, ns, c, 6, rfl, by decide, by decide, fd0, by omega, fun r H1 r0 r1 k1 fd1 => ⟨1, r, rfl, rfl, ?_⟩⟩
    obtain ⟨j, rfl⟩ := Int.eq_ofNat_of_zero_le r0
    refine ⟨f, a, ns, c + 1, 1 + j, ?_, by omega, fd1, by omega, fun ys L H2 nL eL lL hL k2 fd2 => ?_⟩
    · show [V.ref f, V.int (1 + (j : Int))] = [V.ref f, V.int ((1 + j : Nat) : Int)]
      rw [Int.natCast_add]
      rfl
    -- the row
    try dsimp only
    refine seq_asg ?_
    refine ⟨.ref L, rfl, L, rfl, ⟨_, .inl (.inl eL)⟩, fun D nD => ?_⟩
    have nDf := fd2.free nD
    refine lc_list (K := K) (a := L) (xs := ys.map V.str) (fun k G => Keep f H2 G ∧ Fd f a ns G (c + 4 + k) ∧ ∃ zs : List Str, G D = some (.lst (zs.map V.str)) ∧ zs.length ≤ k ∧ ∀ z ∈ zs, z ∈ names)
      ⟨keep_same (same_new nD), (fd2.same (same_new nD)).more (by omega), [], upd_same, Nat.le_refl _, fun z hz => by cases hz⟩ (fun k G _ h => .inl (.inl (h.1 _ _ (fd_ne fd2 eL) eL))) ?_ ?_
    · rintro k v G6 hv ⟨k6, fd6, zs, eD, lz, hz⟩
      have hk : k < (ys.map V.str).length := (List.getElem?_eq_some_iff.mp hv).1
      rw [List.length_map] at hk
      obtain ⟨z, hzy, rfl⟩ := map_get hv
      refine ⟨rfl, ?_⟩
      refine ⟨.ref f, rfl, f, a, ns, _, 2, rfl, by decide, by decide, fd6, by omega, fun r7 G7 _ _ k7 fd7 => ⟨rfl, _, rfl, ?_⟩⟩
      have e7D := k7 _ _ (fd_ne fd6 eD) eD
      have k57 : Keep f H2 G7 := k6.trans k7
      refine ite2 (fun _ => ?_) (fun _ => ?_)
      · refine ⟨_, rfl, zs.map V.str, e7D, by rw [List.length_map]; exact small' (by omega), fun b o nb hb => ?_, (fd7.own nDf.1 nDf.2).more (by omega), zs ++ [z], ?_, ?_, ?_⟩
        · rw [upd_ne (ne_of_none hb nD)]
          exact k57 b o nb hb
        · rw [upd_same, List.map_append]
          rfl
        · rw [List.length_append, List.length_singleton]
          omega
        · intro u hu
          rcases List.mem_append.mp hu with h | h
          · exact hz u h
          · rw [List.mem_singleton.mp h]
            exact hL z (List.mem_of_getElem? hzy)
      · exact ⟨k57, fd7.more (by omega), zs, e7D, by omega, hz⟩
    · rintro G6 ⟨k6, fd6, zs, eD, lz, hz⟩
      rw [List.length_map] at fd6 lz
      have e6L := k6 _ _ (fd_ne fd2 eL) eL
      -- the name
      refine ⟨.ref f, rfl, .ref L, rfl, f, a, L, ns, _, ys.map V.str, rfl, fd6, by omega, .inl (.inl e6L), by rw [List.length_map]; omega, by rw [List.length_map]; omega, fun x G7 hx k7 fd7 => ?_⟩
      obtain ⟨y, hy, rfl⟩ := List.mem_map.mp hx
      have e7D := k7 _ _ (fd_ne fd6 eD) eD
      -- the fee
      refine ⟨.ref f, rfl, 10, 59, rfl, rfl, ⟨by decide, by decide, by decide⟩, (show 4 ≤ sizeLine by decide), fun pl npl => ?_⟩
      have fd7p := fd7.same (same_new (o := .lst (fees4.map V.int)) npl)
      have e7pD := same_new (o := .lst (fees4.map V.int)) npl _ _ e7D
      refine ⟨f, a, pl, ns, _, fees4.map V.int, rfl, fd7p, by omega, .inl (.inl upd_same), (show 0 < 4 by decide), (show 4 ≤ 1000 by decide), fun x8 G8 hx8 k8 fd8 => ?_⟩
      obtain ⟨fee, hfee, rfl⟩ := List.mem_map.mp hx8
      have e8D := k8 _ _ (fd_ne fd7p e7pD) e7pD
      -- the thing
      refine ⟨.ref f, rfl, f, a, ns, _, 2, rfl, by decide, by decide, fd8, by omega, fun r9 G9 _ _ k9 fd9 => ⟨rfl, ?_⟩⟩
      have e9D := k9 _ _ (fd_ne fd8 e8D) e8D
      refine ⟨.ref D, rfl, D, zs.map V.str, rfl, .inl ⟨.inl (.inl e9D), fun tr ntr => ⟨(show 4 ≤ sizeLine by decide), fun tp ntp => ?_⟩⟩⟩
      have kk : Keep f H G9 := (((((k1.trans k2).trans k6).trans k7).trans (keep_same (same_new npl))).trans k8).trans k9
      have sR : Same G9 (upd G9 tr (.tup (zs.map V.str))) := same_new ntr
      have sP := same_new (o := .tup [V.str y, V.int fee, V.bl (decide (V.int r9 = V.int 0)), V.ref tr]) ntp
      refine q (.ref tp) ⟨y, fee, decide (V.int r9 = V.int 0), zs⟩ _ ⟨tp, tr, rfl, .inl (.inl upd_same), .inl (.inl (sP _ _ upd_same))⟩ ⟨names_fit y (hL y hy), fees4_ok fee hfee, by show zs.length ≤ 8; omega, fun z hz' => names_fit z (hz z hz')⟩ (kk.trans (keep_same (sR.trans sP))) ((fd9.same (sR.trans sP)).more (by omega))
end
end Kn
namespace Kn
open PySem PySem.Spec PyProof.Rows L2
/-! ### data that can be shown -/
structure Sh (k B : Nat) (d : PyData) : Prop where
  ok : d.showable = true
  nd : d.hasDict = false
  dp : d.depth ≤ k
  ln : d.shown.length ≤ B
theorem Sh.mono {k B k' B' : Nat} {d : PyData} (h : Sh k B d) (a : k ≤ k') (b : B ≤ B') : Sh k' B' d := ⟨h.ok, h.nd, Nat.le_trans h.dp a, Nat.le_trans h.ln b⟩
theorem sh_str {n : Nat} {x : Str} (h : Fit n x) : Sh 0 (10 * n + 2) (.str x) := by
  refine ⟨rfl, rfl, Nat.le_refl _, ?_⟩
  show (reprText x).length ≤ _
  have := StrLaws.reprText_len x h.2
  have := h.1
  omega
theorem sh_int {i : Int} (h : i.natAbs < 10 ^ 60) : Sh 0 61 (.int i) := ⟨by show decide _ = true; exact decide_eq_true (fee_log h), rfl, Nat.le_refl _, (feeT_fit h).1⟩
theorem sh_bool (b : Bool) : Sh 0 5 (.bool b) := by
  refine ⟨rfl, rfl, Nat.le_refl _, ?_⟩
  cases b <;> decide +kernel
theorem shownAll_len {k B : Nat} : ∀ ds : List PyData, (∀ d ∈ ds, Sh k B d) → PyData.showableAll ds = true ∧ PyData.hasDictAll ds = false ∧ PyData.depthAll ds ≤ k ∧ ((PyData.shownAll ds).map (·.length)).sum ≤ ds.length * B ∧ (PyData.shownAll ds).length = ds.length
  | [], _ => ⟨rfl, rfl, Nat.zero_le _, Nat.zero_le _, rfl⟩
  | d :: r, h => by
    obtain ⟨a1, a2, a3, a4, a5⟩ := shownAll_len r fun x hx => h x (List.mem_cons_of_mem _ hx)
    have q := h d (List.mem_cons_self ..)
    refine ⟨?_, ?_, ?_, ?_, ?_⟩
    · show (d.showable && PyData.showableAll r) = true
      rw [q.ok, a1]
      rfl
    · show (d.hasDict || PyData.hasDictAll r) = false
      rw [q.nd, a2]
      rfl
    · show max d.depth (PyData.depthAll r) ≤ k
      have := q.dp
      omega
    · show ((d.shown :: PyData.shownAll r).map (·.length)).sum ≤ (r.length + 1) * B
      rw [List.map_cons, List.sum_cons, Nat.add_mul]
      have := q.ln
      omega
    · show (d.shown :: PyData.shownAll r).length = r.length + 1
      rw [List.length_cons, a5]
theorem sh_list {k B n : Nat} {ds : List PyData} (h : ∀ d ∈ ds, Sh k B d) (hn : ds.length ≤ n) : Sh (k + 1) (n * (B + 2) + 3) (.list ds) := by
  obtain ⟨a1, a2, a3, a4, a5⟩ := shownAll_len ds h
  refine ⟨a1, a2, Nat.succ_le_succ a3, ?_⟩
  show (listText (PyData.shownAll ds)).length ≤ _
  have q := listText_len_le (PyData.shownAll ds)
  rw [a5] at q
  have m : ds.length * (B + 2) ≤ n * (B + 2) := Nat.mul_le_mul_right _ hn
  rw [Nat.mul_add] at m
  omega
theorem sh_tup {k B n : Nat} {ds : List PyData} (h : ∀ d ∈ ds, Sh k B d) (hn : ds.length ≤ n) : Sh (k + 1) (n * (B + 2) + 3) (.tuple ds) := by
  obtain ⟨a1, a2, a3, a4, a5⟩ := shownAll_len ds h
  refine ⟨a1, a2, Nat.succ_le_succ a3, ?_⟩
  show (tupleText (PyData.shownAll ds)).length ≤ _
  have q := tupleText_len_le (PyData.shownAll ds)
  rw [a5] at q
  have m : ds.length * (B + 2) ≤ n * (B + 2) := Nat.mul_le_mul_right _ hn
  rw [Nat.mul_add] at m
  omega
def dEnt (e : Ent) : PyData := .tuple [.str e.name, .int e.fee, .bool e.has, .tuple (e.row.map PyData.str)]
def dPg (g : Pg) : PyData := .tuple [.tuple (g.es.map dEnt), .str g.asks]
theorem dp_strs {K : PySem.W.Frag} {H : Hp} : ∀ ss : List Str, DpAll K H (ss.map V.str) (ss.map PyData.str)
  | [] => .nil
  | s :: r => .cons (.str s) (dp_strs r)
theorem EntAt.dp {K : PySem.W.Frag} {H : Hp} {v : V} {e : Ent} (h : EntAt K H v e) : Dp K H v (dEnt e) := by
  obtain ⟨p, q, rfl, h1, h2⟩ := h
  exact .tup h1 (.cons (.str _) (.cons (.int _) (.cons (.bl _) (.cons (.tup h2 (dp_strs e.row)) .nil))))
theorem EntsAt.dp {K : PySem.W.Frag} {H : Hp} : ∀ {vs : List V} {es : List Ent}, EntsAt K H vs es → DpAll K H vs (es.map dEnt)
  | _, _, .nil => .nil
  | _, _, .cons a b => .cons a.dp (EntsAt.dp b)
theorem PgAt.dp {K : PySem.W.Frag} {H : Hp} {v : V} {g : Pg} (h : PgAt K H v g) : Dp K H v (dPg g) := by
  obtain ⟨p, q, vs, rfl, h1, h2, h3⟩ := h
  exact .tup h1 (.cons (.tup h2 h3.dp) (.cons (.str _) .nil))
theorem sh_ent {e : Ent} (h : e.ok) : Sh 2 3000 (dEnt e) := by
  obtain ⟨h1, h2, h3, h4⟩ := h
  refine (sh_tup (k := 1) (B := 675) (n := 4) ?_ (by simp)).mono (by decide) (by decide)
  intro d hd
  simp only [List.mem_cons, List.not_mem_nil, or_false] at hd
  rcases hd with rfl | rfl | rfl | rfl
  · exact (sh_str h1).mono (by decide) (by decide)
  · exact (sh_int h2).mono (by decide) (by decide)
  · exact (sh_bool _).mono (by decide) (by decide)
  · refine (sh_tup (k := 0) (B := 82) (n := 8) ?_ (by rw [List.length_map]; exact h3)).mono (by decide) (by decide)
    intro d hd
    obtain ⟨s, hs, rfl⟩ := List.mem_map.mp hd
    exact sh_str (h4 s hs)
theorem sh_pg {g : Pg} (h : g.ok) : Sh 4 100000 (dPg g) := by
  obtain ⟨h1, h2, h3⟩ := h
  refine (sh_tup (k := 3) (B := 40000) (n := 2) ?_ (by simp)).mono (by decide) (by decide)
  intro d hd
  simp only [List.mem_cons, List.not_mem_nil, or_false] at hd
  rcases hd with rfl | rfl
  · refine (sh_tup (k := 2) (B := 3000) (n := 12) ?_ (by rw [List.length_map]; exact h1)).mono (by decide) (by decide)
    intro d hd
    obtain ⟨e, he, rfl⟩ := List.mem_map.mp hd
    exact sh_ent (h2 e he)
  · exact (sh_str h3).mono (by decide) (by decide)

/-! ### same, is_right -/
abbrev nSame : List Str := ["_law_told", "_law_due"]
theorem scSame : FnScope nSame ["_law_told", "_law_due"] (defScope (topS 14)) := ⟨rfl, rfl, rfl, by decide +kernel, rfl, by decide +kernel, by decide +kernel⟩
abbrev nRight : List Str := ["_law_feed", "_law_page_here", "_law_counts_here", "_law_told", "_law_due", "_law_entry"]
theorem scRight : FnScope nRight ["_law_feed", "_law_page_here"] (defScope (topS 17)) := ⟨rfl, rfl, rfl, by decide +kernel, rfl, by decide +kernel, by decide +kernel⟩
def spSame (K : PySem.W.Frag) : Sp := fun vs H Q _ => ∃ (t u : Addr) (d : PyData), vs = [.ref t, .ref u] ∧ Dp K H (.ref t) d ∧ Dp K H (.ref u) d ∧ Sh 20 16777216 d ∧ Q (.bl true) H
def spRight (K : PySem.W.Frag) : Sp := fun vs H Q _ => ∃ (f a : Addr) (ns : List Int) (c : Nat) (v : V) (g : Pg), vs = [.ref f, v] ∧ PgAt K H v g ∧ g.ok ∧ Fd f a ns H c ∧ c < 80000 ∧
  ∀ H', Keep f H H' → Fd f a ns H' (c + 10) → Q (.bl true) H'
section
variable {P : Program} {w : World} {K : PySem.W.Frag} {mg : Str → Option Value} {base : Heap}
theorem ok_same {g : Addr} {fd : FuncData} (F : Fun K "_law_same" "_law_same" (topS 14) g fd) (mp : mg "repr" = none) : Vow P w K mg base 1 g fd ["_law_told", "_law_due"] (spSame K) := by
  refine Vow.body F scSame (fun vs H Q E h => ?_) (fun cdv A outer s H vs Q E hq hr h => ?_)
  · obtain ⟨t, u, d, rfl, _⟩ := h
    rfl
  · obtain ⟨t, u, d, rfl, h1, h2, h3, q⟩ := h
    refine ⟨_, pss_one (ps_ret (pe_cmpR op_eq (pe_callB (call_show hq hr.units) (by rfl) mp boot_repr (pa_cons (pv 0) pa_nil)) (pe_callB (call_show hq hr.units) (by rfl) mp boot_repr (pa_cons (pv 1) pa_nil)) (nomark _))), ?_⟩
    refine ⟨_, rfl, t, d, rfl, h1, h3.ok, h3.nd, h3.dp, Nat.le_trans h3.ln size16, _, rfl, u, d, rfl, h2, h3.ok, h3.nd, h3.dp, Nat.le_trans h3.ln size16, rfl, ?_⟩
    rw [decide_eq_true rfl]
    exact q
end
end Kn
namespace Kn
open PySem PySem.Spec PyProof.Rows L2
/-- the defs of the text as they stand behind the top -/
structure Txt (K : PySem.W.Frag) (mg : Str → Option Value) where
  aTab : Addr
  aKind : Addr
  aWeb : Addr
  aNum : Addr
  aStart : Addr
  aDraw : Addr
  aAny : Addr
  aLab : Addr
  aPg : Addr
  aJoin : Addr
  aLine : Addr
  aPage : Addr
  aSame : Addr
  aCts : Addr
  aEnt : Addr
  aRight : Addr
structure Def (K : PySem.W.Frag) (mg : Str → Option Value) (x : Str) (i : Nat) (ps : List Str) (f : Addr) (fd : FuncData) : Prop where
  F : Fun K x x (topS i) f fd
  b : Binds K fd ps []
  m : mg x = some (.ref f)
section
variable {P : Program} {w : World} {K : PySem.W.Frag} {mg : Str → Option Value} {base : Heap}
theorem ok_right {g gC gW gN gP gJ gK gT gL gS : Addr} {fd fC fW fN fP fJ fK fT fL fS : FuncData} (F : Fun K "_law_is_right" "_law_is_right" (topS 17) g fd)
    (C : Def K mg "_law_counts" 15 ["_law_feed"] gC fC) (OC : FnOk P w K mg base CX0 3 gC fC ["_law_feed"] (spCts K))
    (W : Def K mg "web_text" 3 ["web"] gW fW) (OW : FnOk P w K mg base CX0 3 gW fW ["web"] (spWeb K))
    (N : Def K mg "numbers_text" 4 ["numbers"] gN fN) (ON : FnOk P w K mg base CX0 1 gN fN ["numbers"] (spNum K))
    (G : Def K mg "_law_page_text" 13 ["_law_page_here"] gP fP) (OG : FnOk P w K mg base CX0 3 gP fP ["_law_page_here"] (spWeb K))
    (J : Def K mg "_law_joined" 11 ["_law_some"] gJ fJ) (OJ : FnOk P w K mg base CX0 1 gJ fJ ["_law_some"] (spJoin K))
    (I : Def K mg "kind_text" 2 ["kind"] gK fK) (OI : FnOk P w K mg base CX0 2 gK fK ["kind"] (spKind K))
    (T : Def K mg "table_text" 1 ["table"] gT fT) (OT : FnOk P w K mg base CX0 1 gT fT ["table"] (spTab K))
    (L : Def K mg "_law_entry_line" 12 ["_law_entry"] gL fL) (OL : FnOk P w K mg base CX0 2 gL fL ["_law_entry"] (spLine K))
    (S : Def K mg "_law_same" 14 ["_law_told", "_law_due"] gS fS) (OS : Vow P w K mg base 1 gS fS ["_law_told", "_law_due"] (spSame K)) :
    Vow P w K mg base 4 g fd ["_law_feed", "_law_page_here"] (spRight K) := by
  refine Vow.body F scRight (fun vs H Q E h => ?_) (fun cdv A outer s H vs Q E hq hr h => ?_)
  · obtain ⟨f, a, ns, c, v, g, rfl, _⟩ := h
    rfl
  · obtain ⟨f, a, ns, c, v, g, rfl, pg, ok, fd0, hc, q⟩ := h
    have hr1 : Room 1 _ := hr.mono (by decide)
    have hr2 : Room 2 _ := hr.mono (by decide)
    refine ⟨_, pss_cons (ps_set (i := 2) scRight.nd rfl (.inl rfl) (pe_call OC hr (by rfl) C.m C.F.kp C.b .nil pass0 (pa_cons (pv 0) pa_nil)))
      (pss_cons (ps_set (i := 3) scRight.nd rfl (.inl rfl) (pe_lst (pa_cons (pe_call OW hr (by rfl) W.m W.F.kp W.b .nil pass0 (pa_cons (pv 1) pa_nil)) (pa_cons (pe_call ON hr1 (by rfl) N.m N.F.kp N.b .nil pass0 (pa_cons (pv 2) pa_nil)) pa_nil))))
      (pss_cons (ps_set (i := 4) scRight.nd rfl (.inl rfl) (pe_lst (pa_cons (pe_call OG hr (by rfl) G.m G.F.kp G.b .nil pass0 (pa_cons (pv 1) pa_nil)) (pa_cons (pe_call OJ hr1 (by rfl) J.m J.F.kp J.b .nil pass0 (pa_cons (pv 2) pa_nil)) pa_nil))))
      (pss_cons (ps_for PassesOwn.never rfl (pi_tup (pe_ix ix_tup (pv 1) pe_int (fun _ _ => rfl))) (pg_name (i := 5) scRight.nd rfl (.inl rfl))
        (pss_cons (ps_set (i := 3) scRight.nd rfl (.inl rfl) (pe_op op_cat (pv 3) (pe_lst (pa_cons (pe_call OI hr2 (by rfl) I.m I.F.kp I.b .nil pass0 (pa_cons (pv 5) pa_nil)) (pa_cons (pe_call OT hr1 (by rfl) T.m T.F.kp T.b .nil pass0 (pa_cons (pe_ix ix_tup (pv 5) pe_int (fun _ _ => rfl)) pa_nil)) pa_nil)))))
        (pss_one (ps_set (i := 4) scRight.nd rfl (.inl rfl) (pe_op op_cat (pv 4) (pe_lst (pa_cons (pe_call OL hr2 (by rfl) L.m L.F.kp L.b .nil pass0 (pa_cons (pv 5) pa_nil)) (pa_cons (pe_call OJ hr1 (by rfl) J.m J.F.kp J.b .nil pass0 (pa_cons (pe_ix ix_tup (pv 5) pe_int (fun _ _ => rfl)) pa_nil)) pa_nil))))))))
      (pss_one (ps_ret (pe_vow OS hq hr1 (by rfl) S.m S.F.kp S.b (pa_cons (pv 3) (pa_cons (pv 4) pa_nil)))))))), ?_⟩
    refine ⟨.ref f, rfl, f, a, ns, c, rfl, fd0, hc, fun p ks H1 hks k0 k6 kb k1 fd1 => ?_⟩
    have pg1 := pg.ts (ts_fd fd0 k1)
    have kne : ks ≠ [] := fun z => by
      subst z
      exact absurd k0 (by decide)
    have fk : Fit 10000 (numT ks) := by
      refine (Fit.join (n := 61) (m := 1) (fit_of "," (by decide)) _ ?_).mono ?_
      · intro x hx
        obtain ⟨i, hi, rfl⟩ := List.mem_map.mp hx
        exact feeT_fit (kb i hi)
      · rw [List.length_map]
        omega
    -- told
    refine ⟨v, rfl, v, g, rfl, pg1, ok, fun H2 s2 => ⟨.ref p, rfl, p, ks, rfl, tupS s2 hks, by omega, kb, fun H3 s3 => ⟨(show 2 ≤ sizeLine by decide), fun T0 nT => ?_⟩⟩⟩
    have s4 : Same H1 (upd H3 T0 (.lst [.str (pageT g), .str (numT ks)])) := (s2.trans s3).trans (same_new nT)
    have eT : (upd H3 T0 (.lst [.str (pageT g), .str (numT ks)])) T0 = some (.lst [.str (pageT g), .str (numT ks)]) := upd_same
    generalize upd H3 T0 (.lst [.str (pageT g), .str (numT ks)]) = H4 at s4 eT ⊢
    -- due
    refine ⟨v, rfl, v, g, rfl, pg1.same s4, ok, fun H5 s5 => ⟨.ref p, rfl, p, ks.map V.int, rfl, tupS (s4.trans s5) hks, by rw [List.length_map]; omega, ?_, fun H6 s6 => ⟨(show 2 ≤ sizeLine by decide), fun U0 nU => ?_⟩⟩⟩
    · intro x hx
      obtain ⟨i, hi, rfl⟩ := List.mem_map.mp hx
      exact short_int (kb i hi)
    rw [joinT_int kne] at *
    have s7 : Same H1 (upd H6 U0 (.lst [.str (pageT g), .str (numT ks)])) := ((s4.trans s5).trans s6).trans (same_new nU)
    have eT7 := same_new (o := .lst [.str (pageT g), .str (numT ks)]) nU _ _ (s6 _ _ (s5 _ _ eT))
    have eU7 : (upd H6 U0 (.lst [.str (pageT g), .str (numT ks)])) U0 = some (.lst [.str (pageT g), .str (numT ks)]) := upd_same
    generalize upd H6 U0 (.lst [.str (pageT g), .str (numT ks)]) = H7 at s7 eT7 eU7 ⊢
    obtain ⟨pp, pq, ws, rfl, hp, hw, hE⟩ := pg1.same s7
    have lw := hE.len
    have o1 := ok.1
    -- the entries
    refine ⟨.ref pp, rfl, pp, _, 0, .ref pq, rfl, rfl, hp, atI_nat (j := 0) rfl, pq, rfl, ⟨_, hw⟩, for_tup (K := K) (a := pq) (xs := ws)
      (fun i σ G => ∃ (T U : Addr) (y5 : Option V) (ss : List Str), σ = [some (.ref f), some (.ref pp), some (.ref p), some (.ref T), some (.ref U), y5] ∧ Same H7 G ∧ G T = some (.lst (ss.map V.str)) ∧ G U = some (.lst (ss.map V.str)) ∧ ss.length = 2 + 2 * i ∧ ∀ z ∈ ss, Fit 10000 z)
      ⟨T0, U0, none, [pageT g, numT ks], rfl, Same.refl _, eT7, eU7, rfl, ?_⟩ (fun i σ G _ ⟨_, _, _, _, _, sG, _⟩ => tupS sG hw) ?_ ?_⟩
    · intro z hz
      simp only [List.mem_cons, List.not_mem_nil, or_false] at hz
      rcases hz with rfl | rfl
      · exact pageT_fit ok
      · exact fk
    · rintro i x σ G hx ⟨T, U, y5, ss, rfl, sG, eTG, eUG, ls, fs⟩
      have hi : i < ws.length := (List.getElem?_eq_some_iff.mp hx).1
      obtain ⟨e, he, hv⟩ := hE.get hx
      have hee := ok.2.1 e (List.mem_of_getElem? he)
      obtain ⟨b1, b2, b3, b4⟩ := id hee
      obtain ⟨ep, er, rfl, h1, h2⟩ := hv.same sG
      refine ⟨.ref T, rfl, _, rfl, _, e, rfl, ⟨ep, er, rfl, h1, h2⟩, hee, _, rfl, ep, _, 3, .ref er, rfl, rfl, h1, atI_nat (j := 3) rfl, er, e.row, rfl, h2, b3, b4, (show 2 ≤ sizeLine by decide), fun Z nZ => ?_⟩
      refine ⟨T, Z, ss.map V.str, _, rfl, rfl, same_new nZ _ _ eTG, upd_same, ?_, fun T' nT' => ?_⟩
      · rw [List.length_map, ls]
        exact Nat.le_of_lt (small' (by show 2 + 2 * i + 2 ≤ 1000; omega))
      have sA := (same_new (o := .lst [.str (lineT e), .str (tabT e.row)]) nZ).trans (same_new (o := .lst (ss.map V.str ++ [.str (lineT e), .str (tabT e.row)])) nT')
      have eT' : (upd (upd G Z (.lst [.str (lineT e), .str (tabT e.row)])) T' (.lst (ss.map V.str ++ [.str (lineT e), .str (tabT e.row)]))) T' = some (.lst (ss.map V.str ++ [.str (lineT e), .str (tabT e.row)])) := upd_same
      generalize upd (upd G Z (.lst [.str (lineT e), .str (tabT e.row)])) T' (.lst (ss.map V.str ++ [.str (lineT e), .str (tabT e.row)])) = G2 at sA eT' ⊢
      refine ⟨.ref U, rfl, _, rfl, _, e, rfl, ⟨ep, er, rfl, tupS sA h1, tupS sA h2⟩, hee, fun G3 s3 => ⟨_, rfl, ep, _, 3, .ref er, rfl, rfl, tupS (sA.trans s3) h1, atI_nat (j := 3) rfl, er, e.row.map V.str, rfl, tupS (sA.trans s3) h2, by rw [List.length_map]; exact b3, ?_, fun G4 s4 => ⟨(show 2 ≤ sizeLine by decide), fun Z' nZ' => ?_⟩⟩⟩
      · intro z hz
        obtain ⟨y, hy, rfl⟩ := List.mem_map.mp hz
        exact short_str (b4 y hy)
      rw [joinT_str] at *
      refine ⟨U, Z', ss.map V.str, _, rfl, rfl, same_new nZ' _ _ (s4 _ _ (s3 _ _ (sA _ _ eUG))), upd_same, ?_, fun U' nU' => ?_⟩
      · rw [List.length_map, ls]
        exact Nat.le_of_lt (small' (by show 2 + 2 * i + 2 ≤ 1000; omega))
      have sB := ((s3.trans s4).trans (same_new (o := .lst [.str (lineT e), .str (tabT e.row)]) nZ')).trans (same_new (o := .lst (ss.map V.str ++ [.str (lineT e), .str (tabT e.row)])) nU')
      have em : ss.map V.str ++ [V.str (lineT e), V.str (tabT e.row)] = (ss ++ [lineT e, tabT e.row]).map V.str := by
        rw [List.map_append]
        rfl
      refine ⟨T', U', _, ss ++ [lineT e, tabT e.row], rfl, (sG.trans sA).trans sB, ?_, ?_, ?_, ?_⟩
      · rw [← em]
        exact sB _ _ eT'
      · rw [← em]
        exact upd_same
      · rw [List.length_append, ls]
        show 2 + 2 * i + 2 = _
        omega
      · intro z hz
        rcases List.mem_append.mp hz with h | h
        · exact fs z h
        · simp only [List.mem_cons, List.not_mem_nil, or_false] at h
          rcases h with rfl | rfl
          · exact (lineT_fit hee).mono (by decide)
          · exact (tabT_fit b3 b4).mono (by decide)
    · rintro σ G ⟨T, U, y5, ss, rfl, sG, eTG, eUG, ls, fs⟩
      refine ⟨.ref T, rfl, .ref U, rfl, T, U, .list (ss.map PyData.str), rfl, .lst (.inl (.inl eTG)) (dp_strs ss), .lst (.inl (.inl eUG)) (dp_strs ss), ?_, ?_⟩
      · refine (sh_list (k := 0) (B := 100002) (n := 26) ?_ (by rw [List.length_map]; omega)).mono (by decide) (by decide)
        intro d hd
        obtain ⟨z, hz, rfl⟩ := List.mem_map.mp hd
        exact sh_str (fs z hz)
      · exact q G (k1.trans (keep_same (s7.trans sG))) (fd1.same (s7.trans sG))
end
end Kn
namespace Kn
open PySem PySem.Spec PyProof.Rows L2
/-! ### t[::-1] of a tuple -/
section
variable {prog : Program} {w : World} {A : Around} {E : Value → Shared → Prop} {s : Shared}
theorem places_back (n : Nat) : Builtin.Slice.sliceAdjust none none (-1) (n : Int) = ((n : Int) - 1, -1) := by
  unfold Builtin.Slice.sliceAdjust
  rfl
theorem count_back (n : Nat) : Builtin.Slice.slicePlaces ((n : Int) - 1) (-1) (-1) = n := by
  unfold Builtin.Slice.slicePlaces
  simp
  omega
theorem fm_congr {α β : Type} {f g : α → Option β} : ∀ {l : List α}, (∀ x ∈ l, f x = g x) → l.filterMap f = l.filterMap g
  | [], _ => rfl
  | x :: r, h => by
    rw [List.filterMap_cons, List.filterMap_cons, h x (List.mem_cons_self ..), fm_congr (l := r) fun y hy => h y (List.mem_cons_of_mem _ hy)]
theorem pick_back (xs : Array Value) : ((List.range xs.size).filterMap fun (k : Nat) => xs[((xs.size : Int) - 1 + (k : Int) * -1).toNat]?).toArray = xs.toList.reverse.toArray := by
  have e : (List.range xs.size).filterMap (fun (k : Nat) => xs[((xs.size : Int) - 1 + (k : Int) * -1).toNat]?) = xs.toList.reverse := by
    have h : ∀ k ∈ List.range xs.size, xs[((xs.size : Int) - 1 + (k : Int) * -1).toNat]? = xs.toList.reverse[k]? := by
      intro k hk
      have hk := List.mem_range.mp hk
      have hl : k < xs.toList.length := by rw [Array.length_toList]; exact hk
      rw [List.getElem?_reverse hl, Array.getElem?_toList, Array.length_toList]
      congr 1
      omega
    rw [fm_congr h]
    have n : xs.size = xs.toList.reverse.length := by rw [List.length_reverse, Array.length_toList]
    rw [n]
    generalize xs.toList.reverse = ys
    induction ys with
    | nil => rfl
    | cons y r ih =>
      rw [List.length_cons, List.range_succ_eq_map, List.filterMap_cons, List.filterMap_map]
      show y :: List.filterMap (fun k => r[k]?) (List.range r.length) = y :: r
      rw [ih]
  rw [e]
theorem cut_back {sl : Addr} {vl vu vs : Value} {n : Nat} {R : Int × Int × Nat → Shared → Prop} (hs : s.heap.IsSliceOf sl vl vu vs) (pl : IsPart vl none) (pu : IsPart vu none) (ps : IsPart vs (some (-1)))
    (r : R ((n : Int) - 1, -1, n) s) : wpAny (model prog w) A (Builtin.Slice.sliceApplied (.ref sl) (pure (n : Int))) R E s := by
  obtain ⟨o, ho, _, hd⟩ := id hs
  unfold Builtin.Slice.sliceApplied Builtin.Slice.sliceFields
  refine wpAny_bind (wpAny_bind (wpAny_field ho hd (x := vl) rfl (wpAny_bind (wpAny_field ho hd (x := vu) rfl (wpAny_bind (wpAny_field ho hd (x := vs) rfl (wpAny_pure ?_)))))))
  refine wpAny_bind (HT.slicePart_ ps ?_)
  show wpAny _ _ (if ((-1 : Int) == 0) = true then _ else _) _ _ s
  rw [if_neg (by decide)]
  refine wpAny_bind (HT.slicePart_ pl (wpAny_bind (HT.slicePart_ pu (wpAny_bind (wpAny_pure ?_)))))
  show wpAny _ _ (pure (((n : Int) - 1, (-1 : Int), Builtin.Slice.slicePlaces ((n : Int) - 1) (-1) (-1)))) _ _ s
  rw [count_back]
  exact wpAny_pure r
theorem get_back {t sl : Addr} {its : Array Value} {vl vu vs : Value} {Q : Value → Shared → Prop} (ht : IsTup s.heap t its) (hs : s.heap.IsSliceOf sl vl vu vs) (pl : IsPart vl none) (pu : IsPart vu none) (ps : IsPart vs (some (-1)))
    (q : Q (.ref s.heap.objs.size) { s with heap := s.heap.push { cls := .type "tuple", data := .seq its.toList.reverse.toArray } }) (room : its.size ≤ sizeLine) : wpAny (model prog w) A (getItem (.ref t) (.ref sl)) Q E s := by
  have isSl : s.TypeIs (.ref sl) "slice" := let ⟨os, a, b, _⟩ := hs; ⟨os, a, b⟩
  have fits : sizeOk (.seq its.toList.reverse.toArray) := by
    show its.toList.reverse.toArray.size ≤ sizeLine
    rw [List.size_toArray, List.length_reverse, Array.length_toList]
    exact room
  unfold getItem
  refine wpAny_holding ?_
  refine wpAny_bind (wpAny_sequenceKey ht.typeIs (by decide) ?_)
  refine wpAny_bind (wpAny_callSpecial?_slot ht.typeIs PyProof.Rows.slot_tuple_getitem (wpAny_call_entry PyProof.Rows.slot_tuple_getitem ht.typeIs PyProof.Rows.entry_tuple_getitem ?_ (PyProof.Rows.args_tuple_getitem _ _)))
  show wpAny _ _ (Builtin.Tuple.tupleItemsOf (.ref t) >>= _) _ _ s
  refine wpAny_bind (tupleItemsOf_ ht (wpAny_bind (wpAny_typeOf isSl ?_)))
  rw [if_pos (by decide)]
  refine wpAny_bind (cut_back hs pl pu ps ?_)
  have no : ¬ (((its.size : Int) - 1 == 0 && (-1 : Int) == 1 && its.size == its.size) = true) := by
    rw [show ((-1 : Int) == 1) = false from rfl, Bool.and_false, Bool.false_and]
    exact Bool.false_ne_true
  show wpAny _ _ (if ((its.size : Int) - 1 == 0 && (-1 : Int) == 1 && its.size == its.size) = true then _ else _) _ _ s
  rw [if_neg no, pick_back]
  exact wpAny_bind (m := Builtin.Tuple.tupleExact _) (wpAny_newObj_type (wpAny_pure ⟨_, rfl, wpAny_pure q⟩) fits)
end

section
variable {X : Cx} {e : Expr} {te : TE} {k : Nat} {p1 p2 p3 pos : Pos}
def tRevT (K : PySem.W.Frag) (te : TE) : TE := fun σ H Q => te σ H fun x G => ∃ a xs, x = .ref a ∧ SqT K G a xs ∧ ∀ p, G p = none → Q (.ref p) (upd G p (.tup xs.reverse))
theorem pe_revT (he : PE X e te) : PE X (.Subscript e (.Slice none none (some (.UnaryOp .USub (.Constant (.int 1) k p1) p2)) p3) pos) (tRevT X.K te) := by
  refine ⟨fun pins s σ H Q I told => Subscript_ (thn (he.run pins s σ H _ I told) ?_)⟩
  rintro v s1 ⟨x, H1, I1, rx, a, xs, rfl, hT, q⟩
  obtain rfl : v = Value.ref a := rx
  have back : PO X (some (.UnaryOp .USub (.Constant (.int 1) k p1) p2)) (tPart (tUn (rU fun i => .int (-i)) (tC (.int 1)))) := po_some (pe_un un_neg pe_int)
  refine wpAny_Slice (thn (po_none.run pins s1 σ H1 (fun o G => o = none ∧ G = H1) I1 ⟨rfl, rfl⟩) ?_)
  rintro vl s2 ⟨l, H2, I2, pl, rfl, rfl⟩
  refine thn (po_none.run pins s2 σ H2 (fun o G => o = none ∧ G = H2) I2 ⟨rfl, rfl⟩) ?_
  rintro vu s3 ⟨u, H3, I3, pu, rfl, rfl⟩
  refine thn (back.run pins s3 σ H3 (fun o G => o = some (-1) ∧ G = H3) I3 ⟨1, rfl, -1, rfl, rfl, rfl⟩) ?_
  rintro vs s4 ⟨o, H4, I4, ps, rfl, rfl⟩
  have I5 : Inv X pins σ H4 { s4 with heap := s4.heap.push { cls := .type "slice", data := .fields #[vl, vu, vs] } } := I4.kept (t' := s4.toks) (fun _ _ y => Heap.get?_push_of_some _ y)
  obtain ⟨its, rv, isT, room⟩ := I5.tuple hT
  have many := rv.length
  show wpAny _ _ (subscriptTail e _ (.ref a) (.ref s4.heap.objs.size)) _ _ { s4 with heap := s4.heap.push { cls := .type "slice", data := .fields #[vl, vu, vs] } }
  refine tail_any (ops := [.ref a, .ref s4.heap.objs.size]) isT.typeIs PyProof.Rows.slot_tuple_getitem.lookup ?_ (by with_unfolding_all rfl)
  refine get_back isT (Heap.IsSliceOf.new _ vl vu vs) pl pu ps ?_ (by rw [List.size_toArray]; omega)
  refine ⟨.ref _, _, I5.laid (t' := s4.toks) (o := .tup xs.reverse) (fun _ _ y => Heap.get?_push_of_some _ y) (Nat.le_refl _) ?_, rfl, q _ (I5.hok.fresh (Nat.le_refl _))⟩
  exact ⟨by rw [List.length_reverse]; exact room, its.reverse, rv.reverse, IsTup.new _ _⟩
end

/-! ### f(x = e): one parameter, given by its name -/
section
variable {X : Cx} {k : Nat} {f : Addr} {fd : FuncData} {y x : Str} {sp : Sp} {p pos kpos : Pos} {e : Expr} {te : TE}
def tKw (sp : Sp) (te : TE) : TE := fun σ H Q => te σ H fun v G => sp [v] G Q E0
theorem pe_kw1 (F : FnOk X.prog X.w X.K X.mg X.base CX0 k f fd [y] sp) (hr : Room k X.A) (hg : Gl X x) (hm : X.mg x = some (.ref f)) (hk : PySem.W.keepIn X.K (.ref f) = true)
    (hb : ∀ (s : Shared) (u : Value), BindsTo s fd ⟨[], [(y, u)]⟩ [(y, u)]) (he : PE X e te) (hdb : (x == ("__debug__" : Str)) = false := by decide)
    (h1 : (backToKw pos (keywordEach [⟨some y, e, kpos⟩] X.env)).all (·.1.isSome) = true := by rfl) (h2 : (backToKw pos (keywordEach [⟨some y, e, kpos⟩] X.env)).filterMap (·.1) = [y] := by rfl)
    (h3 : ((backTo pos (starEach [] X.env)).any (·.1) || (backToKw pos (keywordEach [⟨some y, e, kpos⟩] X.env)).any (·.1.isNone)) = false := by rfl) :
    PE X (.Call (.Name x p) [] [⟨some y, e, kpos⟩] pos) (tKw sp te) := by
  have hkw : PK X [⟨some y, e, kpos⟩] (tCons te tNil) := pk_cons he pk_nil
  refine ⟨fun pins s σ H Q I told => wpAny_Call_Name_kw (ld_glob I hg hm ?_ hdb)⟩
  refine PySem.W.callWith_KW0 (h₀ := X.base) I.ok.mod.kin hk h1 (thn (hkw.run pos pins s σ H (fun vs G => sp vs G Q E0) I told) ?_) h3
  · rintro us s1 ⟨vs, H1, I1, rv, q⟩
    refine ⟨I1.kIn, ?_⟩
    rw [h2]
    have n1 := F.len _ _ _ _ q
    obtain ⟨v, rfl⟩ : ∃ v, vs = [v] := by
      match vs, n1 with
      | [v], _ => exact ⟨v, rfl⟩
    obtain ⟨u, rfl, ru⟩ := vals1 rv
    refine wpAny_call (codeAny_mono (F.run X.A X.stack s1 H1 ⟨[], [(y, u)]⟩ [u] [v] Q E0 hr I1.env0 (hb s1 u) rv q) ?_)
    intro r s2 out
    cases r with
    | error _ => exact False.elim out
    | ok fl =>
      cases fl with
      | ret u => exact I1.after out
      | next => exact False.elim out
      | brk => exact False.elim out
      | cont => exact False.elim out
end
end Kn
namespace Kn
open PySem PySem.Spec PyProof.Rows L2
abbrev nLaw : List Str := ["_law_script", "_law_feed", "_law_lap", "_law_page_here", "_law_entries", "_law_any_one", "_law_kept", "_law_pairs", "_law_told", "_law_due", "_law_k", "_law_pair"]
theorem scLaw : FnScope nLaw ["_law_script"] (defScope (topS 18)) := ⟨rfl, rfl, rfl, by decide +kernel, rfl, by decide +kernel, by decide +kernel⟩
def spLaw (K : PySem.W.Frag) : Sp := fun vs H Q _ => ∃ (a : Addr) (ns : List Int), vs = [.ref a] ∧ SqL K H a (ns.map V.int) ∧ ns.length ≤ 63 ∧ ∀ H', Q (.bl true) H'
def asks3 : List Str := ["q", "has", "abcdefgh"]
theorem asks3_fit : ∀ y ∈ asks3, Fit 8 y := by
  intro y hy
  simp only [asks3, List.mem_cons, List.not_mem_nil, or_false] at hy
  rcases hy with rfl | rfl | rfl
  · exact fit_of "q" (by decide)
  · exact fit_of "has" (by decide)
  · exact fit_of "abcdefgh" (by decide)
theorem sIx_one (n : Nat) : HT.sIx n n (some 1) = min 1 n := HT.sIx_nat n n 1
theorem slice_one {K : PySem.W.Frag} {H : Hp} {q : Addr} {ws : List V} {Q : VK} (ne : ws ≠ []) (hT : SqT K H q ws) (k : ∀ b H', Same H H' → SqT K H' b (ws.take 1) → Q (.ref b) H') : rSlA K (.ref q) none (some 1) H Q := by
  have n0 : 0 < ws.length := List.length_pos_iff.mpr ne
  refine ⟨q, ws, rfl, hT, fun h => ?_, fun h p np => ?_⟩
  · have e := h.2
    rw [sIx_one] at e
    have : ws.take 1 = ws := List.take_of_length_le (by omega)
    exact k q H (Same.refl H) (by rw [this]; exact hT)
  · have e : cutV ws none (some 1) = ws.take 1 := by
      unfold cutV
      rw [sIx_one, HT.sIx_none, List.drop_zero, show min 1 ws.length - 0 = 1 by omega]
    rw [e]
    exact k p _ (same_new np) (.inl (.inl upd_same))
theorem EntsAt.take {K : PySem.W.Frag} {H : Hp} : ∀ {vs : List V} {es : List Ent} (n : Nat), EntsAt K H vs es → EntsAt K H (vs.take n) (es.take n)
  | _, _, 0, _ => .nil
  | _, _, n + 1, .nil => .nil
  | _, _, n + 1, .cons a b => .cons a (EntsAt.take n b)
section
variable {P : Program} {w : World} {K : PySem.W.Frag} {mg : Str → Option Value} {base : Heap}
theorem ok_law {g gB gP gD gE gA gR gS gT gK gN gW : Addr} {fd fB fP fD fE fA fR fS fT fK fN fW : FuncData} (F : Fun K "law" "law" (topS 18) g fd)
    (B : Def K mg "_law_start" 6 ["_law_script"] gB fB) (OB : FnOk P w K mg base CX0 1 gB fB ["_law_script"] (spStart K))
    (G : Def K mg "_law_page" 10 ["_law_feed", "_law_most"] gP fP) (OG : FnOk P w K mg base CX0 4 gP fP ["_law_feed", "_law_most"] (spPg K))
    (D : Def K mg "_law_draw" 7 ["_law_feed", "_law_many"] gD fD) (OD : FnOk P w K mg base CX0 1 gD fD ["_law_feed", "_law_many"] spDraw)
    (N : Def K mg "_law_any_entry" 16 ["_law_feed"] gE fE) (ON : FnOk P w K mg base CX0 4 gE fE ["_law_feed"] (spEnt K))
    (A' : Def K mg "_law_any" 8 ["_law_feed", "_law_some"] gA fA) (OA : FnOk P w K mg base CX0 2 gA fA ["_law_feed", "_law_some"] (spAny K))
    (R : Def K mg "_law_is_right" 17 ["_law_feed", "_law_page_here"] gR fR) (OR : Vow P w K mg base 4 gR fR ["_law_feed", "_law_page_here"] (spRight K))
    (S : Def K mg "_law_same" 14 ["_law_told", "_law_due"] gS fS) (OS : Vow P w K mg base 1 gS fS ["_law_told", "_law_due"] (spSame K))
    (T : Def K mg "table_text" 1 ["table"] gT fT) (OT : FnOk P w K mg base CX0 1 gT fT ["table"] (spTab K)) (kT : ∀ (s : Shared) (u : Value), BindsTo s fT ⟨[], [("table", u)]⟩ [("table", u)])
    (I : Def K mg "kind_text" 2 ["kind"] gK fK) (OI : FnOk P w K mg base CX0 2 gK fK ["kind"] (spKind K)) (kI : ∀ (s : Shared) (u : Value), BindsTo s fK ⟨[], [("kind", u)]⟩ [("kind", u)])
    (M : Def K mg "numbers_text" 4 ["numbers"] gN fN) (OM : FnOk P w K mg base CX0 1 gN fN ["numbers"] (spNum K)) (kM : ∀ (s : Shared) (u : Value), BindsTo s fN ⟨[], [("numbers", u)]⟩ [("numbers", u)])
    (W : Def K mg "web_text" 3 ["web"] gW fW) (OW : FnOk P w K mg base CX0 3 gW fW ["web"] (spWeb K)) (kW : ∀ (s : Shared) (u : Value), BindsTo s fW ⟨[], [("web", u)]⟩ [("web", u)])
    (mr : mg "range" = none) (mt : mg "tuple" = none) (mp : mg "repr" = none) :
    Vow P w K mg base 5 g fd ["_law_script"] (spLaw K) := by
  refine Vow.body F scLaw (fun vs H Q E h => ?_) (fun cdv A outer s H vs Q E hq hr h => ?_)
  · obtain ⟨a, ns, rfl, _⟩ := h
    rfl
  · obtain ⟨a0, ns0, rfl, hS, hl, q⟩ := h
    have hr1 : Room 1 _ := hr.mono (by decide)
    have hr2 : Room 2 _ := hr.mono (by decide)
    have hr3 : Room 3 _ := hr.mono (by decide)
    refine ⟨_, pss_cons (ps_set (i := 1) scLaw.nd rfl (.inr rfl) (pe_call OB hr1 (by rfl) B.m B.F.kp B.b .nil pass0 (pa_cons (pv 0) pa_nil)))
      (pss_cons (ps_for PassesOwn.never rfl (pi_range1 (by rfl) mr (pa_cons pe_int pa_nil)) (pg_name (i := 2) scLaw.nd rfl (.inl rfl))
        (pss_cons (ps_set (i := 3) scLaw.nd rfl (.inl rfl) (pe_call OG hr (by rfl) G.m G.F.kp G.b .nil pass0 (pa_cons (pv 1) (pa_cons pe_int pa_nil))))
        (pss_cons (ps_setLc (i := 4) (own := [("_law_k", 10)]) (g := gName 10) (by rfl) scLaw.nd rfl rfl (sw_true rfl rfl rfl (by decide +kernel)) (pi_range1 (by rfl) mr (pa_cons (pe_call OD hr1 (by rfl) D.m D.F.kp D.b .nil pass0 (pa_cons (pv 1) (pa_cons pe_int pa_nil))) pa_nil)) (blkOk_by (own := [("_law_k", 10)]) (N := nLaw) (sc := defScope (topS 18)) (by decide +kernel))
          (fun _ _ _ _ _ => pg_name (i := 10) scLaw.nd rfl (Or.inl rfl)) (fun _ _ _ _ _ => pts_nil) (fun _ _ _ _ _ => pe_call ON hr (by rfl) N.m N.F.kp N.b .nil pass0 (pa_cons (pv 1) pa_nil)))
        (pss_cons (ps_set (i := 5) scLaw.nd rfl (.inl rfl) (pe_tup (pa_cons (pe_callTy call_tuple_of (by rfl) mt boot_tuple (pa_cons (pv 4) pa_nil)) (pa_cons (pe_call OA hr2 (by rfl) A'.m A'.F.kp A'.b .nil pass0 (pa_cons (pv 1) (pa_cons (pe_lst (pa_cons pe_str (pa_cons pe_str (pa_cons pe_str pa_nil)))) pa_nil))) pa_nil))))
        (pss_cons (ps_set (i := 6) scLaw.nd rfl (.inl rfl) (pe_callB (call_show hq hr.units) (by rfl) mp boot_repr (pa_cons (pe_lst (pa_cons (pv 3) (pa_cons (pv 5) pa_nil))) pa_nil)))
        (pss_cons (ps_set (i := 7) scLaw.nd rfl (.inl rfl) (pe_lst (pa_cons (pv 3) (pa_cons (pv 5)
            (pa_cons (pe_tup (pa_cons (pe_revT (pe_ix ix_tup (pv 3) pe_int (fun _ _ => rfl))) (pa_cons (pe_ix ix_tup (pv 3) pe_int (fun _ _ => rfl)) pa_nil)))
            (pa_cons (pe_tup (pa_cons (pe_op op_catT (pe_ix ix_tup (pv 3) pe_int (fun _ _ => rfl)) (pe_slice sl_tupA (pe_ix ix_tup (pv 3) pe_int (fun _ _ => rfl)) po_none (po_some pe_int))) (pa_cons pe_str pa_nil)))
            (pa_cons (pe_tup (pa_cons (pe_tup pa_nil) (pa_cons pe_str pa_nil))) pa_nil)))))))
        (pss_one (ps_if (PW.pt (pw_or (pt_cmpR (op_neD hr.units) (pe_lc (own := [("_law_pair", 11)]) (g := gName 11) (by rfl) scLaw.nd (pi_list (pv 7)) (blkOk_by (own := [("_law_pair", 11)]) (N := nLaw) (sc := defScope (topS 18)) (by decide +kernel))
              (fun _ _ _ _ _ => pg_name (i := 11) scLaw.nd rfl (Or.inl rfl)) (fun _ _ _ _ _ => pts_one (pt_not (pt_val (pe_vow OR hq hr (by rfl) R.m R.F.kp R.b (pa_cons (pv 1) (pa_cons (pv 11) pa_nil)))))) (fun _ _ _ _ _ => pv 11)) (pe_lst pa_nil) (nomark _))
            (pw_or1 (pt_cmpR op_ne (pe_callB (call_show hq hr.units) (by rfl) mp boot_repr (pa_cons (pe_lst (pa_cons (pv 3) (pa_cons (pv 5) pa_nil))) pa_nil)) (pv 6) (nomark _)))))
          (pss_one (ps_ret pe_bl)) pss_nil))))))))
      (pss_cons (ps_set (i := 8) scLaw.nd rfl (.inl rfl) (pe_lst (pa_cons (pe_kw1 OT hr1 (by rfl) T.m T.F.kp kT (pe_tup pa_nil)) (pa_cons (pe_kw1 OT hr1 (by rfl) T.m T.F.kp kT (pe_tup (pa_cons pe_str (pa_cons pe_str pa_nil))))
        (pa_cons (pe_kw1 OI hr2 (by rfl) I.m I.F.kp kI (pe_tup (pa_cons pe_str (pa_cons pe_int (pa_cons pe_bl (pa_cons (pe_tup pa_nil) pa_nil)))))) pa_nil)))))
      (pss_cons (ps_expr (pe_bm PySem.F.plainAttrs_list PySem.F.slot_list_append PySem.F.type_list_append mt_append (pv 8) (pa_cons (pe_kw1 OM hr1 (by rfl) M.m M.F.kp kM (pe_tup (pa_cons pe_int pa_nil))) pa_nil)))
      (pss_cons (ps_expr (pe_bm PySem.F.plainAttrs_list PySem.F.slot_list_append PySem.F.type_list_append mt_append (pv 8) (pa_cons (pe_kw1 OW hr3 (by rfl) W.m W.F.kp kW
        (pe_tup (pa_cons (pe_tup (pa_cons (pe_tup (pa_cons pe_str (pa_cons pe_int (pa_cons pe_bl (pa_cons (pe_tup (pa_cons pe_str (pa_cons pe_str pa_nil))) pa_nil))))) (pa_cons (pe_tup (pa_cons pe_str (pa_cons pe_int (pa_cons pe_bl (pa_cons (pe_tup (pa_cons pe_str pa_nil)) pa_nil))))) pa_nil))) (pa_cons pe_str pa_nil)))) pa_nil)))
      (pss_cons (ps_set (i := 9) scLaw.nd rfl (.inl rfl) (pe_lst (pa_cons pe_str (pa_cons pe_str (pa_cons pe_str (pa_cons pe_str (pa_cons pe_str pa_nil)))))))
      (pss_one (ps_ret (pe_vow OS hq hr1 (by rfl) S.m S.F.kp S.b (pa_cons (pv 8) (pa_cons (pv 9) pa_nil)))))))))), ?_⟩
    -- the feed
    refine ⟨_, rfl, a0, ns0, rfl, hS, hl, fun f a ms H1 _ _ fd1 => ?_⟩
    refine ⟨3, rfl, by decide, by decide, for_range (lo := 0) (n := (3 : Int).toNat) (fun i σ J => ∃ y2 y3 y4 y5 y6 y7 y8 y9 y10 y11, σ = [some (.ref a0), some (.ref f), y2, y3, y4, y5, y6, y7, y8, y9, y10, y11] ∧ Fd f a ms J (1000 * i))
      ⟨none, none, none, none, none, none, none, none, none, none, rfl, fd1⟩ ?_ ?_⟩
    · rintro i σ J hi ⟨y2, y3, y4, y5, y6, y7, y8, y9, y10, y11, rfl, fdJ⟩
      have hi : i < 3 := hi
      -- the page
      refine ⟨_, rfl, f, a, ms, _, 5, rfl, by decide, by decide, fdJ, by omega, fun v g J1 pg1 ok1 g0 g5 k1 fd1 => ?_⟩
      -- entries
      try dsimp only
      refine seq_asg ?_
      refine ⟨_, rfl, f, a, ms, _, 5, rfl, by decide, by decide, fd1, by omega, fun r J2 r0 r1 k2 fd2 => ⟨r, rfl, by omega, by omega, fun D1 nD => ?_⟩⟩
      have pg2 := pg1.ts (ts_fd fd1 k2)
      have nDf := fd2.free nD
      refine lc_range (lo := 0) (n := r.toNat) (fun j X => Keep f J2 X ∧ Fd f a ms X (1000 * i + 61 + 20 * j) ∧ ∃ ws es, X D1 = some (.lst ws) ∧ EntsAt K X ws es ∧ es.length = j ∧ ∀ e ∈ es, e.ok)
        ⟨keep_same (same_new nD), fd2.same (same_new nD), [], [], upd_same, .nil, rfl, fun e he => by cases he⟩ ?_ ?_
      · rintro j X hj ⟨kX, fdX, ws, es, eD, hE, lE, okE⟩
        refine ⟨rfl, ?_⟩
        simp only [tYes, ↓reduceIte]
        refine ⟨_, rfl, f, a, ms, _, rfl, fdX, by omega, fun v' e X' hv he k' fd' => ?_⟩
        have eD' := k' _ _ (fd_ne fdX eD) eD
        refine ⟨ws, eD', by rw [hE.len]; exact small' (by omega), fun b o nb hb => ?_, (fd'.own nDf.1 nDf.2).more (by omega), ws ++ [v'], es ++ [e], upd_same, ?_, ?_, ?_⟩
        · rw [upd_ne (ne_of_none hb nD)]
          exact k' _ _ nb (kX _ _ nb hb)
        · exact ((hE.ts (ts_fd fdX k')).append (.cons hv .nil)).ts (ts_lst eD')
        · rw [List.length_append, lE]
          rfl
        · intro e' he'
          rcases List.mem_append.mp he' with h | h
          · exact okE e' h
          · rw [List.mem_singleton.mp h]
            exact he
      · rintro X ⟨kX, fdX, ws, es, eD, hE, lE, okE⟩
        have pgX := pg2.ts (ts_fd fd2 kX)
        -- any_one
        refine ⟨.ref D1, rfl, D1, ws, rfl, .inl ⟨.inl (.inl eD), fun te nte => ?_⟩⟩
        refine ⟨_, rfl, (show 3 ≤ sizeLine by decide), fun pl npl => ?_⟩
        have sT : Same X (upd (upd X te (.tup ws)) pl (.lst (asks3.map V.str))) := (same_new nte).trans (same_new npl)
        have eTe := same_new (o := .lst (asks3.map V.str)) npl _ _ (upd_same (H := X) (a := te) (o := .tup ws))
        have fdT := fdX.same sT
        refine ⟨f, a, pl, ms, _, asks3.map V.str, rfl, fdT, by omega, .inl (.inl upd_same), (show 0 < 3 by decide), (show 3 ≤ 1000 by decide), fun x J3 hx k3 fd3 => ⟨(show 2 ≤ sizeLine by decide), fun ta nta => ?_⟩⟩
        obtain ⟨asks, hasks, rfl⟩ := List.mem_map.mp hx
        have ts3 : TS X (upd J3 ta (.tup [.ref te, .str asks])) := ((ts_same sT).trans (ts_fd fdT k3)).trans (ts_same (same_new nta))
        have pg3 := pgX.ts ts3
        have eTe3 : SqT K (upd J3 ta (.tup [.ref te, .str asks])) te ws := tupT ((ts_fd fdT k3).trans (ts_same (same_new nta))) (.inl (.inl eTe))
        have pa3 : PgAt K (upd J3 ta (.tup [.ref te, .str asks])) (.ref ta) ⟨es, asks⟩ := ⟨ta, te, ws, rfl, .inl (.inl upd_same), eTe3, hE.ts ts3⟩
        have oka : Pg.ok ⟨es, asks⟩ := ⟨by show es.length ≤ 12; omega, okE, asks3_fit asks hasks⟩
        have fd4 := fd3.same (same_new (o := .tup [.ref te, .str asks]) nta)
        generalize upd J3 ta (.tup [.ref te, .str asks]) = J4 at pg3 pa3 fd4 ⊢
        -- kept
        have shd : Sh 5 300000 (.list [dPg g, dPg ⟨es, asks⟩]) := by
          refine (sh_list (k := 4) (B := 100000) (n := 2) ?_ (by simp)).mono (by decide) (by decide)
          intro d hd
          simp only [List.mem_cons, List.not_mem_nil, or_false] at hd
          rcases hd with rfl | rfl
          · exact sh_pg ok1
          · exact sh_pg oka
        refine ⟨v, rfl, .ref ta, rfl, (show 2 ≤ sizeLine by decide), fun z nz => ⟨z, .list [dPg g, dPg ⟨es, asks⟩], rfl, .lst (.inl (.inl upd_same)) (.cons (pg3.same (same_new nz)).dp (.cons (pa3.same (same_new nz)).dp .nil)), shd.ok, shd.nd, Nat.le_trans shd.dp (by decide), Nat.le_trans shd.ln (by decide), ?_⟩⟩
        have pg5 := pg3.same (same_new (o := .lst [v, .ref ta]) nz)
        have pa5 := pa3.same (same_new (o := .lst [v, .ref ta]) nz)
        have fd5 := fd4.same (same_new (o := .lst [v, .ref ta]) nz)
        generalize upd J4 z (.lst [v, .ref ta]) = J5 at pg5 pa5 fd5 ⊢
        -- pairs
        obtain ⟨pp, pq, vs5, rfl, hp, hw, hE5⟩ := id pg5
        have ne5 : vs5 ≠ [] := fun z => by
          have := hE5.len
          rw [z] at this
          have : 0 = g.es.length := this
          omega
        refine ⟨.ref pp, rfl, .ref ta, rfl, .ref pp, rfl, pp, _, 0, .ref pq, rfl, rfl, hp, atI_nat (j := 0) rfl, pq, vs5, rfl, hw, fun rv nrv => ?_⟩
        have s1 : Same J5 (upd J5 rv (.tup vs5.reverse)) := same_new nrv
        refine ⟨.ref pp, rfl, pp, _, 1, .str g.asks, rfl, rfl, tupS s1 hp, atI_nat (j := 1) rfl, (show 2 ≤ sizeLine by decide), fun t3 nt3 => ?_⟩
        have s2 := s1.trans (same_new (o := .tup [.ref rv, .str g.asks]) nt3)
        have p3 : PgAt K (upd (upd J5 rv (.tup vs5.reverse)) t3 (.tup [.ref rv, .str g.asks])) (.ref t3) ⟨g.es.reverse, g.asks⟩ :=
          ⟨t3, rv, vs5.reverse, rfl, .inl (.inl upd_same), tupS (same_new nt3) (.inl (.inl upd_same)), (hE5.same s2).rev⟩
        generalize upd (upd J5 rv (.tup vs5.reverse)) t3 (.tup [.ref rv, .str g.asks]) = J6 at s2 p3 ⊢
        refine ⟨.ref pp, rfl, pp, _, 0, .ref pq, rfl, rfl, tupS s2 hp, atI_nat (j := 0) rfl, .ref pp, rfl, pp, _, 0, .ref pq, rfl, rfl, tupS s2 hp, atI_nat (j := 0) rfl, 1, rfl, slice_one ne5 (tupS s2 hw) fun b J7 s7 hb => ?_⟩
        have s27 := s2.trans s7
        have l5 : vs5.length ≤ 5 := by rw [hE5.len]; exact g5
        refine ⟨pq, b, vs5, vs5.take 1, rfl, rfl, tupS s27 hw, hb, ne5, ?_, fun z => ?_, fun _ cc ncc => ?_⟩
        · rw [List.length_take]
          exact Nat.le_of_lt (small' (by omega))
        · refine absurd z ?_
          cases vs5 with
          | nil => exact absurd rfl ne5
          | cons x r => simp
        refine ⟨(show 2 ≤ sizeLine by decide), fun t4 nt4 => ?_⟩
        have s8 := (same_new (o := .tup (vs5 ++ vs5.take 1)) ncc).trans (same_new (o := .tup [.ref cc, .str "q"]) nt4)
        have p4 : PgAt K (upd (upd J7 cc (.tup (vs5 ++ vs5.take 1))) t4 (.tup [.ref cc, .str "q"])) (.ref t4) ⟨g.es ++ g.es.take 1, "q"⟩ :=
          ⟨t4, cc, _, rfl, .inl (.inl upd_same), tupS (same_new nt4) (.inl (.inl upd_same)), ((hE5.same s27).append ((hE5.same s27).take 1)).same s8⟩
        generalize upd (upd J7 cc (.tup (vs5 ++ vs5.take 1))) t4 (.tup [.ref cc, .str "q"]) = J8 at s8 p4 ⊢
        refine ⟨Nat.zero_le _, fun em nem => ⟨(show 2 ≤ sizeLine by decide), fun t5 nt5 => ⟨(show 5 ≤ sizeLine by decide), fun pr npr => ?_⟩⟩⟩
        have s9 := (same_new (o := .tup []) nem).trans (same_new (o := .tup [.ref em, .str "kind"]) nt5)
        have p5 : PgAt K (upd (upd J8 em (.tup [])) t5 (.tup [.ref em, .str "kind"])) (.ref t5) ⟨[], "kind"⟩ :=
          ⟨t5, em, [], rfl, .inl (.inl upd_same), tupS (same_new nt5) (.inl (.inl upd_same)), .nil⟩
        have sp := same_new (o := .lst [.ref pp, .ref ta, .ref t3, .ref t4, .ref t5]) npr
        have all : ∀ x ∈ [V.ref pp, .ref ta, .ref t3, .ref t4, .ref t5], ∃ g' : Pg, PgAt K (upd (upd (upd J8 em (.tup [])) t5 (.tup [.ref em, .str "kind"])) pr (.lst [.ref pp, .ref ta, .ref t3, .ref t4, .ref t5])) x g' ∧ g'.ok := by
          intro x hx
          simp only [List.mem_cons, List.not_mem_nil, or_false] at hx
          rcases hx with rfl | rfl | rfl | rfl | rfl
          · exact ⟨g, (pg5.same ((s27.trans s8).trans s9)).same sp, ok1⟩
          · exact ⟨_, (pa5.same ((s27.trans s8).trans s9)).same sp, oka⟩
          · exact ⟨_, (p3.same ((s7.trans s8).trans s9)).same sp, by rw [Pg.ok]; exact ⟨by show g.es.reverse.length ≤ 12; rw [List.length_reverse]; omega, fun e he => ok1.2.1 e (List.mem_reverse.mp he), ok1.2.2⟩⟩
          · refine ⟨_, (p4.same s9).same sp, by show (g.es ++ g.es.take 1).length ≤ 12; rw [List.length_append, List.length_take]; omega, fun e he => ?_, fit_of "q" (by decide)⟩
            rcases List.mem_append.mp he with h | h
            · exact ok1.2.1 e h
            · exact ok1.2.1 e (List.mem_of_mem_take h)
          · exact ⟨_, p5.same sp, by show 0 ≤ 12; decide, fun e he => (by cases he), fit_of "kind" (by decide)⟩
        have s10 : Same J5 (upd (upd (upd J8 em (.tup [])) t5 (.tup [.ref em, .str "kind"])) pr (.lst [.ref pp, .ref ta, .ref t3, .ref t4, .ref t5])) := ((s27.trans s8).trans s9).trans sp
        have eP : (upd (upd (upd J8 em (.tup [])) t5 (.tup [.ref em, .str "kind"])) pr (.lst [.ref pp, .ref ta, .ref t3, .ref t4, .ref t5])) pr = some (.lst [.ref pp, .ref ta, .ref t3, .ref t4, .ref t5]) := upd_same
        have fd10 := fd5.same s10
        have pg10 := pg5.same s10
        have pa10 := pa5.same s10
        generalize upd (upd (upd J8 em (.tup [])) t5 (.tup [.ref em, .str "kind"])) pr (.lst [.ref pp, .ref ta, .ref t3, .ref t4, .ref t5]) = J10 at all eP fd10 pg10 pa10 ⊢
        -- which of them are wrong
        refine ⟨.ref pr, rfl, pr, rfl, ⟨_, .inl (.inl eP)⟩, fun D2 nD2 => ?_⟩
        have nD2f := fd10.free nD2
        refine lc_list (K := K) (a := pr) (xs := [.ref pp, .ref ta, .ref t3, .ref t4, .ref t5]) (fun j X => Keep f J10 X ∧ Fd f a ms X (1000 * i + 500 + 10 * j) ∧ X D2 = some (.lst []))
          ⟨keep_same (same_new nD2), (fd10.same (same_new nD2)).more (by omega), upd_same⟩ (fun j X _ h => .inl (.inl (h.1 _ _ (fd_ne fd10 eP) eP))) ?_ ?_
        · rintro j x X hx ⟨kX2, fdX2, eD2⟩
          have hj : j < 5 := (List.getElem?_eq_some_iff.mp hx).1
          obtain ⟨g', hg', okg'⟩ := all x (List.mem_of_getElem? hx)
          refine ⟨rfl, ?_⟩
          refine ⟨_, rfl, _, rfl, f, a, ms, _, x, g', rfl, hg'.ts (ts_fd fd10 kX2), okg', fdX2, by omega, fun X' k' fd' => ⟨true, rfl, ?_⟩⟩
          exact iteF ⟨kX2.trans k', fd'.more (by omega), k' _ _ (fd_ne fdX2 eD2) eD2⟩
        · rintro X2 ⟨kX2, fdX2, eD2⟩
          have fdX2 : Fd f a ms X2 (1000 * i + 500 + 10 * 5) := fdX2
          refine ⟨Nat.zero_le _, fun z2 nz2 => ⟨.list [], .list [], .lst (.inl (.inl (same_new nz2 _ _ eD2))) .nil, .lst (.inl (.inl upd_same)) .nil, rfl, rfl, _, rfl, ?_⟩⟩
          refine iteF ?_
          have ts12 := (ts_fd fd10 kX2).trans (ts_same (same_new (o := .lst []) nz2))
          have pg12 := pg10.ts ts12
          have pa12 := pa10.ts ts12
          have fd12 := fdX2.same (same_new (o := .lst []) nz2)
          generalize upd X2 z2 (.lst []) = J12 at pg12 pa12 fd12 ⊢
          refine ⟨.ref pp, rfl, .ref ta, rfl, (show 2 ≤ sizeLine by decide), fun z nz => ⟨z, .list [dPg g, dPg ⟨es, asks⟩], rfl, .lst (.inl (.inl upd_same)) (.cons (pg12.same (same_new nz)).dp (.cons (pa12.same (same_new nz)).dp .nil)), shd.ok, shd.nd, Nat.le_trans shd.dp (by decide), Nat.le_trans shd.ln (by decide), ?_⟩⟩
          refine ⟨_, rfl, rfl, _, rfl, iteNS rfl ?_⟩
          exact ⟨_, _, _, _, _, _, _, _, _, _, rfl, (fd12.same (same_new nz)).more (by omega)⟩
    · rintro σ J ⟨y2, y3, y4, y5, y6, y7, y8, y9, y10, y11, rfl, _⟩
      have fa : Fit 8 (Str.ofString "a") := fit_of "a" (by decide)
      have fb : Fit 8 (Str.ofString "b") := fit_of "b" (by decide)
      have fab : ∀ s ∈ [Str.ofString "a", Str.ofString "b"], Fit 8 s := fun s hs => by
        simp only [List.mem_cons, List.not_mem_nil, or_false] at hs
        rcases hs with rfl | rfl
        · exact fa
        · exact fb
      have fa1 : ∀ s ∈ [Str.ofString "a"], Fit 8 s := fun s hs => by
        simp only [List.mem_cons, List.not_mem_nil, or_false] at hs
        rw [hs]
        exact fa
      refine ⟨Nat.zero_le _, fun e1 n1 => ⟨e1, [], rfl, .inl (.inl upd_same), by decide, fun s hs => (by cases hs), ?_⟩⟩
      refine ⟨(show 2 ≤ sizeLine by decide), fun e2 n2 => ⟨e2, ["a", "b"], rfl, .inl (.inl upd_same), by decide, fab, ?_⟩⟩
      refine ⟨Nat.zero_le _, fun e3 n3 => ⟨(show 4 ≤ sizeLine by decide), fun e4 n4 => ?_⟩⟩
      refine ⟨.ref e4, ⟨"a", 1, true, []⟩, rfl, ⟨e4, e3, rfl, .inl (.inl upd_same), tupS (same_new n4) (.inl (.inl upd_same))⟩, ⟨fa, by decide, by decide, fun s hs => (by cases hs)⟩, (show 3 ≤ sizeLine by decide), fun tl ntl => ?_⟩
      have eT : (upd (upd (upd (upd (upd J e1 (.tup [])) e2 (.tup [.str "a", .str "b"])) e3 (.tup [])) e4 (.tup [.str "a", .int 1, .bl true, .ref e3])) tl (.lst [.str (tabT []), .str (tabT ["a", "b"]), .str (lineT ⟨"a", 1, true, []⟩)])) tl = some (.lst [.str (tabT []), .str (tabT ["a", "b"]), .str (lineT ⟨"a", 1, true, []⟩)]) := upd_same
      generalize upd (upd (upd (upd (upd J e1 (.tup [])) e2 (.tup [.str "a", .str "b"])) e3 (.tup [])) e4 (.tup [.str "a", .int 1, .bl true, .ref e3])) tl (.lst [.str (tabT []), .str (tabT ["a", "b"]), .str (lineT ⟨"a", 1, true, []⟩)]) = L1 at eT ⊢
      -- the numbers
      refine ⟨.ref tl, rfl, .inl ⟨rfl, _, .inl (.inl eT)⟩, (show 1 ≤ sizeLine by decide), fun e5 n5 => ⟨e5, [7], rfl, .inl (.inl upd_same), by decide, fun i hi => ?_, fun L2 s2 => ?_⟩⟩
      · rw [List.mem_singleton.mp hi]
        decide
      have eT2 := s2 _ _ (same_new n5 _ _ eT)
      refine ⟨tl, _, _, rfl, rfl, eT2, (show 3 < sizeLine by decide), ?_⟩
      have eT3 : (upd L2 tl (.lst ([.str (tabT []), .str (tabT ["a", "b"]), .str (lineT ⟨"a", 1, true, []⟩)] ++ [.str (numT [7])]))) tl = some (.lst [.str (tabT []), .str (tabT ["a", "b"]), .str (lineT ⟨"a", 1, true, []⟩), .str (numT [7])]) := upd_same
      generalize upd L2 tl (.lst ([.str (tabT []), .str (tabT ["a", "b"]), .str (lineT ⟨"a", 1, true, []⟩)] ++ [.str (numT [7])])) = L3 at eT3 ⊢
      -- the web
      refine ⟨.ref tl, rfl, .inl ⟨rfl, _, .inl (.inl eT3)⟩, (show 2 ≤ sizeLine by decide), fun r1 m1 => ⟨(show 4 ≤ sizeLine by decide), fun r2 m2 => ⟨(show 1 ≤ sizeLine by decide), fun r3 m3 => ⟨(show 4 ≤ sizeLine by decide), fun r4 m4 => ⟨(show 2 ≤ sizeLine by decide), fun r5 m5 => ⟨(show 2 ≤ sizeLine by decide), fun r6 m6 => ?_⟩⟩⟩⟩⟩⟩
      have z1 : Same L3 (upd L3 r1 (.tup [.str "a", .str "b"])) := same_new m1
      have z2 : Same _ (upd (upd L3 r1 (.tup [.str "a", .str "b"])) r2 (.tup [.str "a", .int 1, .bl false, .ref r1])) := same_new m2
      have z3 := same_new (o := .tup [.str "a"]) m3
      have z4 := same_new (o := .tup [.str "b", .int 20, .bl true, .ref r3]) m4
      have z5 := same_new (o := .tup [.ref r2, .ref r4]) m5
      have z6 := same_new (o := .tup [.ref r5, .str "a"]) m6
      refine ⟨.ref r6, ⟨[⟨"a", 1, false, ["a", "b"]⟩, ⟨"b", 20, true, ["a"]⟩], "a"⟩, rfl, ⟨r6, r5, [.ref r2, .ref r4], rfl, .inl (.inl upd_same), tupS z6 (.inl (.inl upd_same)), .cons ⟨r2, r1, rfl, ?_, ?_⟩ (.cons ⟨r4, r3, rfl, ?_, ?_⟩ .nil)⟩, ⟨(show 2 ≤ 12 by decide), fun e he => ?_, fa⟩, fun L4 s4 => ?_⟩
      · exact tupS (((z3.trans z4).trans z5).trans z6) (.inl (.inl upd_same))
      · exact tupS ((((z2.trans z3).trans z4).trans z5).trans z6) (.inl (.inl upd_same))
      · exact tupS (z5.trans z6) (.inl (.inl upd_same))
      · exact tupS ((z4.trans z5).trans z6) (.inl (.inl upd_same))
      · simp only [List.mem_cons, List.not_mem_nil, or_false] at he
        rcases he with rfl | rfl
        · exact ⟨fa, by decide, by decide, fab⟩
        · exact ⟨fb, by decide, by decide, fa1⟩
      have eT4 := s4 _ _ (z6 _ _ (z5 _ _ (z4 _ _ (z3 _ _ (z2 _ _ (z1 _ _ eT3))))))
      refine ⟨tl, _, _, rfl, rfl, eT4, (show 4 < sizeLine by decide), ?_⟩
      -- what is due
      refine ⟨(show 5 ≤ sizeLine by decide), fun dl ndl => ?_⟩
      have w1 : tabT [] = ("-" : Str) := by decide +kernel
      have w2 : tabT ["a", "b"] = ("a,b" : Str) := by decide +kernel
      have w3 : lineT ⟨"a", 1, true, []⟩ = ("kind a 1 has -" : Str) := by decide +kernel
      have w4 : numT [7] = ("7" : Str) := by decide +kernel
      have w5 : pageT ⟨[⟨"a", 1, false, ["a", "b"]⟩, ⟨"b", 20, true, ["a"]⟩], "a"⟩ = ("kind a 1 not a,b\nkind b 20 has a\nasker a" : Str) := by decide +kernel
      refine ⟨.ref tl, rfl, .ref dl, rfl, tl, dl, .list [.str "-", .str "a,b", .str "kind a 1 has -", .str "7", .str "kind a 1 not a,b\nkind b 20 has a\nasker a"], rfl, .lst (.inl (.inl (same_new ndl _ _ upd_same))) ?_, .lst (.inl (.inl upd_same)) ?_, ?_, q _⟩
      · rw [← w1, ← w2, ← w3, ← w4, ← w5]
        exact .cons (.str _) (.cons (.str _) (.cons (.str _) (.cons (.str _) (.cons (.str _) .nil))))
      · exact .cons (.str _) (.cons (.str _) (.cons (.str _) (.cons (.str _) (.cons (.str _) .nil))))
      · refine (sh_list (k := 0) (B := 1002) (n := 5) ?_ (by simp)).mono (by decide) (by decide)
        intro d hd
        simp only [List.mem_cons, List.not_mem_nil, or_false] at hd
        rcases hd with rfl | rfl | rfl | rfl | rfl
        · exact sh_str (fit_of "-" (n := 100) (by decide))
        · exact sh_str (fit_of "a,b" (n := 100) (by decide))
        · exact sh_str (fit_of "kind a 1 has -" (n := 100) (by decide))
        · exact sh_str (fit_of "7" (n := 100) (by decide))
        · exact sh_str (fit_of "kind a 1 not a,b\nkind b 20 has a\nasker a" (n := 100) (by decide))
end
end Kn
namespace Kn
open PySem PySem.Spec PyProof.Rows L2
/-! ### what the top has written -/
def At (K : PySem.W.Frag) (x : Str) (i : Nat) : Prop := ∃ (f : Addr) (oc : Value) (od an : Option Addr) (sl : Array (Option Value)) (kV dc pm cd ct : Value),
  PySem.W.nsIn K mainGlobals x = some (some (.ref f)) ∧ K.lookup f = some ⟨oc, od, .func (PySem.W.fnOf x x (defArgs (topS i)) (defBody (topS i)) (defScope (topS i)) .none kV dc pm an cd ct), sl⟩ ∧ PySem.W.codeIn K cd x = true ∧ PySem.W.keepIn K (.ref f) = true
theorem at_mk {K : PySem.W.Frag} {x : Str} {i : Nat} {f : Addr} {oc kV dc pm cd ct : Value} {od an : Option Addr} {sl : Array (Option Value)} (a : PySem.W.nsIn K mainGlobals x = some (some (.ref f)))
    (l : K.lookup f = some ⟨oc, od, .func (PySem.W.fnOf x x (defArgs (topS i)) (defBody (topS i)) (defScope (topS i)) .none kV dc pm an cd ct), sl⟩) (c : PySem.W.codeIn K cd x = true) (k : PySem.W.keepIn K (.ref f) = true) : At K x i :=
  ⟨f, oc, od, an, sl, kV, dc, pm, cd, ct, a, l, c, k⟩
section
variable {K : PySem.W.Frag} {mg : Str → Option Value} {h : Heap} {x y : Str} {i : Nat} {ps : List Str}
theorem def_of (X : K.In h) (G : h.Ns mainGlobals mg) (t : At K x i)
    (b : ∀ (kV doc pm : Value) (an : Option Addr) (cdv ct : Value) (us : List Value), us.length = ps.length → bindArgs (PySem.W.fnOf x x (defArgs (topS i)) (defBody (topS i)) (defScope (topS i)) .none kV doc pm an cdv ct) ⟨us, []⟩ = pure (ps.zip us)) :
    ∃ f fd, Def K mg x i ps f fd := by
  obtain ⟨f, oc, od, an, sl, kV, dc, pm, cd, ct, a, l, c, k⟩ := t
  have F := fun_mk (st := topS i) l c k
  exact ⟨f, _, F, F.binds b, PySem.W.mg_of X G a⟩
theorem def_of1 (X : K.In h) (G : h.Ns mainGlobals mg) (t : At K x i)
    (b : ∀ (kV doc pm : Value) (an : Option Addr) (cdv ct : Value) (us : List Value), us.length = [y].length → bindArgs (PySem.W.fnOf x x (defArgs (topS i)) (defBody (topS i)) (defScope (topS i)) .none kV doc pm an cdv ct) ⟨us, []⟩ = pure ([y].zip us))
    (b1 : ∀ (kV doc pm : Value) (an : Option Addr) (cdv ct u : Value), bindArgs (PySem.W.fnOf x x (defArgs (topS i)) (defBody (topS i)) (defScope (topS i)) .none kV doc pm an cdv ct) ⟨[], [(y, u)]⟩ = pure [(y, u)]) :
    ∃ f fd, Def K mg x i [y] f fd ∧ ∀ (s : Shared) (u : Value), BindsTo s fd ⟨[], [(y, u)]⟩ [(y, u)] := by
  obtain ⟨f, oc, od, an, sl, kV, dc, pm, cd, ct, a, l, c, k⟩ := t
  have F := fun_mk (st := topS i) l c k
  exact ⟨f, _, ⟨F, F.binds b, PySem.W.mg_of X G a⟩, fun s u => .of_eq (b1 _ _ _ _ _ _ u)⟩
theorem all_mk {l : PySem.W.OpenLaw} {w : World} {fa : Addr} (X : K.In h) (G : h.Ns mainGlobals mg) (hfa : mg "law" = some (.ref fa))
    (t1 : At K "table_text" 1) (t2 : At K "kind_text" 2) (t3 : At K "web_text" 3) (t4 : At K "numbers_text" 4) (t6 : At K "_law_start" 6) (t7 : At K "_law_draw" 7) (t8 : At K "_law_any" 8) (t9 : At K "_law_labels" 9) (t10 : At K "_law_page" 10)
    (t11 : At K "_law_joined" 11) (t12 : At K "_law_entry_line" 12) (t13 : At K "_law_page_text" 13) (t14 : At K "_law_same" 14) (t15 : At K "_law_counts" 15) (t16 : At K "_law_any_entry" 16) (t17 : At K "_law_is_right" 17) (t18 : At K "law" 18)
    (z1 : PySem.W.nsIn K mainGlobals "len" = some none) (z2 : PySem.W.nsIn K mainGlobals "int" = some none) (z3 : PySem.W.nsIn K mainGlobals "range" = some none) (z4 : PySem.W.nsIn K mainGlobals "sorted" = some none)
    (z5 : PySem.W.nsIn K mainGlobals "tuple" = some none) (z6 : PySem.W.nsIn K mainGlobals "str" = some none) (z7 : PySem.W.nsIn K mainGlobals "repr" = some none) :
    ∃ fd : FuncData, (∀ (s : Shared) (v : Value), BindsTo s fd ⟨[v], []⟩ [("_law_script", v)]) ∧ ∀ base : Heap, K.In base → base.Ns mainGlobals mg → Vow l.prog w K mg base 5 fa fd ["_law_script"] (spLaw K) := by
  obtain ⟨f1, d1, D1, k1⟩ := def_of1 (mg := mg) (y := "table") X G t1 (fun _ _ _ _ _ _ us hl => match us, hl with | [_], _ => rfl) (fun _ _ _ _ _ _ _ => rfl)
  obtain ⟨f2, d2, D2, k2⟩ := def_of1 (mg := mg) (y := "kind") X G t2 (fun _ _ _ _ _ _ us hl => match us, hl with | [_], _ => rfl) (fun _ _ _ _ _ _ _ => rfl)
  obtain ⟨f3, d3, D3, k3⟩ := def_of1 (mg := mg) (y := "web") X G t3 (fun _ _ _ _ _ _ us hl => match us, hl with | [_], _ => rfl) (fun _ _ _ _ _ _ _ => rfl)
  obtain ⟨f4, d4, D4, k4⟩ := def_of1 (mg := mg) (y := "numbers") X G t4 (fun _ _ _ _ _ _ us hl => match us, hl with | [_], _ => rfl) (fun _ _ _ _ _ _ _ => rfl)
  obtain ⟨f6, d6, D6⟩ := def_of (mg := mg) (ps := ["_law_script"]) X G t6 (fun _ _ _ _ _ _ us hl => match us, hl with | [_], _ => rfl)
  obtain ⟨f7, d7, D7⟩ := def_of (mg := mg) (ps := ["_law_feed", "_law_many"]) X G t7 (fun _ _ _ _ _ _ us hl => match us, hl with | [_, _], _ => rfl)
  obtain ⟨f8, d8, D8⟩ := def_of (mg := mg) (ps := ["_law_feed", "_law_some"]) X G t8 (fun _ _ _ _ _ _ us hl => match us, hl with | [_, _], _ => rfl)
  obtain ⟨f9, d9, D9⟩ := def_of (mg := mg) (ps := ["_law_feed", "_law_many"]) X G t9 (fun _ _ _ _ _ _ us hl => match us, hl with | [_, _], _ => rfl)
  obtain ⟨f10, d10, D10⟩ := def_of (mg := mg) (ps := ["_law_feed", "_law_most"]) X G t10 (fun _ _ _ _ _ _ us hl => match us, hl with | [_, _], _ => rfl)
  obtain ⟨f11, d11, D11⟩ := def_of (mg := mg) (ps := ["_law_some"]) X G t11 (fun _ _ _ _ _ _ us hl => match us, hl with | [_], _ => rfl)
  obtain ⟨f12, d12, D12⟩ := def_of (mg := mg) (ps := ["_law_entry"]) X G t12 (fun _ _ _ _ _ _ us hl => match us, hl with | [_], _ => rfl)
  obtain ⟨f13, d13, D13⟩ := def_of (mg := mg) (ps := ["_law_page_here"]) X G t13 (fun _ _ _ _ _ _ us hl => match us, hl with | [_], _ => rfl)
  obtain ⟨f14, d14, D14⟩ := def_of (mg := mg) (ps := ["_law_told", "_law_due"]) X G t14 (fun _ _ _ _ _ _ us hl => match us, hl with | [_, _], _ => rfl)
  obtain ⟨f15, d15, D15⟩ := def_of (mg := mg) (ps := ["_law_feed"]) X G t15 (fun _ _ _ _ _ _ us hl => match us, hl with | [_], _ => rfl)
  obtain ⟨f16, d16, D16⟩ := def_of (mg := mg) (ps := ["_law_feed"]) X G t16 (fun _ _ _ _ _ _ us hl => match us, hl with | [_], _ => rfl)
  obtain ⟨f17, d17, D17⟩ := def_of (mg := mg) (ps := ["_law_feed", "_law_page_here"]) X G t17 (fun _ _ _ _ _ _ us hl => match us, hl with | [_, _], _ => rfl)
  have ml := PySem.W.mg_none_of X G z1
  have mi := PySem.W.mg_none_of X G z2
  have mr := PySem.W.mg_none_of X G z3
  have mo := PySem.W.mg_none_of X G z4
  have mt := PySem.W.mg_none_of X G z5
  have ms := PySem.W.mg_none_of X G z6
  have mp := PySem.W.mg_none_of X G z7
  obtain ⟨fL, oc, od, an, sl, kV, dc, pm, cd, ct, aL, lL, cL, kL⟩ := t18
  cases hfa.symm.trans (PySem.W.mg_of X G aL)
  have FL := fun_mk (st := topS 18) lL cL kL
  refine ⟨PySem.W.fnOf "law" "law" (defArgs (topS 18)) (defBody (topS 18)) (defScope (topS 18)) .none kV dc pm an cd ct, fun s v => .of_eq rfl, fun base _ _ => ?_⟩
  have O1 : FnOk l.prog w K mg base CX0 1 f1 d1 ["table"] (spTab K) := ok_tab D1.F ml
  have O2 : FnOk l.prog w K mg base CX0 2 f2 d2 ["kind"] (spKind K) := ok_kind D2.F D1.F D1.b D1.m ml
  have O3 : FnOk l.prog w K mg base CX0 3 f3 d3 ["web"] (spWeb K) := ok_web D3.F D2.F D2.b D2.m D1.F D1.b D1.m ml
  have O4 : FnOk l.prog w K mg base CX0 1 f4 d4 ["numbers"] (spNum K) := ok_num D4.F ms
  have O6 : FnOk l.prog w K mg base CX0 1 f6 d6 ["_law_script"] (spStart K) := ok_start D6.F
  have O7 : FnOk l.prog w K mg base CX0 1 f7 d7 ["_law_feed", "_law_many"] spDraw := ok_draw D7.F mi ml
  have O8 : FnOk l.prog w K mg base CX0 2 f8 d8 ["_law_feed", "_law_some"] (spAny K) := ok_any D8.F D7.F D7.b D7.m mi ml
  have O10 : FnOk l.prog w K mg base CX0 4 f10 d10 ["_law_feed", "_law_most"] (spPg K) := ok_pg D10.F D9.F D9.b D9.m D8.F D8.b D8.m D7.F D7.b D7.m mi ml mr mo mt
  have O11 : FnOk l.prog w K mg base CX0 1 f11 d11 ["_law_some"] (spJoin K) := ok_join D11.F ml ms
  have O12 : FnOk l.prog w K mg base CX0 2 f12 d12 ["_law_entry"] (spLine K) := ok_line D12.F D11.F D11.b D11.m ml ms
  have O13 : FnOk l.prog w K mg base CX0 3 f13 d13 ["_law_page_here"] (spWeb K) := ok_page D13.F D12.F D12.b D12.m D11.F D11.b D11.m ml ms
  have O14 : Vow l.prog w K mg base 1 f14 d14 ["_law_told", "_law_due"] (spSame K) := ok_same D14.F mp
  have O15 : FnOk l.prog w K mg base CX0 3 f15 d15 ["_law_feed"] (spCts K) := ok_cts D15.F D8.F D8.b D8.m D7.F D7.b D7.m mi ml mr mt
  have O16 : FnOk l.prog w K mg base CX0 4 f16 d16 ["_law_feed"] (spEnt K) := ok_ent D16.F D9.F D9.b D9.m D8.F D8.b D8.m D7.F D7.b D7.m mi ml mr mo mt
  have O17 : Vow l.prog w K mg base 4 f17 d17 ["_law_feed", "_law_page_here"] (spRight K) := ok_right D17.F D15 O15 D3 O3 D4 O4 D13 O13 D11 O11 D2 O2 D1 O1 D12 O12 D14 O14
  exact ok_law FL D6 O6 D10 O10 D7 O7 D16 O16 D8 O8 D17 O17 D14 O14 D1 O1 k1 D2 O2 k2 D4 O4 k4 D3 O3 k3 mr mt mp
end
end Kn
open PySem PySem.W PyProof.Rows
set_option maxHeartbeats 0 in
theorem PySem.Challenge.cw_firstletter_k09_texts_written_holds : PySem.Challenge.rw_firstletter_k09_texts_written.Holds := by
  w_on; o_law; k_head; (case hw => w_witness2)
  k_fill
  refine Kn.walk_vow (l := PySem.Challenge.rw_firstletter_k09_texts_written) (k := 5) (x := "_law_script") (sp := Kn.spLaw) rfl rfl ⟨rfl, by decide, by decide⟩ (fun w h Y => PySem.W.kIn_of Y) ?F (fun _ _ a ns hl _ hS => ⟨a, ns, rfl, hS, hl, fun _ => rfl⟩)
  case F =>
    intro w mg fa h KX G hmg
    refine' Kn.all_mk KX G hmg ?t1 ?t2 ?t3 ?t4 ?t6 ?t7 ?t8 ?t9 ?t10 ?t11 ?t12 ?t13 ?t14 ?t15 ?t16 ?t17 ?t18 ?z1 ?z2 ?z3 ?z4 ?z5 ?z6 ?z7
    (case z1 => k_is); (case z2 => k_is); (case z3 => k_is); (case z4 => k_is); (case z5 => k_is); (case z6 => k_is); (case z7 => k_is)
    all_goals
      refine' Kn.at_mk ?a ?l ?c ?k
      (case a => k_is); (case l => k_is); (case c => k_is); (case k => k_is)
