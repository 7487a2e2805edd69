import PyProof.Rows.All
import Wide.All
import OpenK.AllK
import Wide.FinOn
import HandS.ForMost
import HandS.Star
import HandS.FStr
import HandS.RaiseMore
import PyProof.ReprRoads
import PyProof.StrLawsRepr
import HandS.TupAny
import PyProof.ReprLen
import HandS.IsInst
import KE.KRevSl
import HandS.Walk
import PyProof.Draws
import KE.GoesMore
import PyProof.EnumMake
import HandS.StrMore
import HandS.DictComp
import HandS.Deep
import HandS.Strs
import HandS.TupMul
import HandS.List
import HandS.Comp
import HandS.WordsExc
import PySem.Challenge.RW_firstletter_k01_values_of_each_form
set_option Elab.async false
set_option linter.all false
set_option maxRecDepth 100000
set_option maxHeartbeats 8000000
/-! Kn: defs that show data by repr. A promise that holds where nothing is being shown yet (Vow), its body, its call, the law's end. -/
namespace Kn
open PySem PySem.Spec PyProof.Rows L2

section
variable (P : Program) (w : World) (K : PySem.W.Frag) (mg : Str → Option Value) (base : Heap)
structure Vow (k : Nat) (f : Addr) (fd : FuncData) (ps : List Str) (sp : Sp) : Prop where
  many : ∀ vs H Q E, sp vs H Q E → vs.length = ps.length
  goes : ∀ (A : Around) (fr : List Env) (s : Shared) (H : Hp) (g : Args) (us : List Value) (vs : List V) (Q : VK) (E : XK), A.guards = some [] → Room k A →
    Env0 P w K mg base A fr s H → BindsTo s fd g (ps.zip us) → Vals vs us → sp vs H Q E → codeAny (model P w) A (.call (.ref f) g) (CR CX0 fr P w H s Q E) s
end
section
variable {P : Program} {w : World} {K : PySem.W.Frag} {mg : Str → Option Value} {base : Heap} {k : Nat} {f : Addr} {fd : FuncData} {ps N : List Str} {sp : Sp} {x qual : Str} {st : Stmt}

theorem Vow.body (F : Fun K x qual st f fd) (S : FnScope N ps (defScope st)) (many : ∀ vs H Q E, sp vs H Q E → vs.length = ps.length)
    (hb : ∀ (cdv : Value) (A : Around) (fr : List Env) (s : Shared) (H : Hp) (vs : List V) (Q : VK) (E : XK), A.guards = some [] → Room k (A.deeper (envOfC qual (defScope st) s.heap.objs.size f cdv)) → sp vs H Q E →
      ∃ t, PSs (cxOf CX0 P w K mg base N qual (defScope st) f cdv A fr s H E).nox (defBody st) t ∧ t { nx := fun _ H' => Q .non H', rt := Q } (start N vs) H) :
    Vow P w K mg base (k + 1) f fd ps sp := by
  obtain ⟨oc, od, kV, doc, pm, an, cdv, ct, osl, rfl, look, cdOk⟩ := F.ex
  refine ⟨many, fun A fr s H g us vs Q E hg room z bound rv told => ?_⟩
  have held : ∀ b o, base.get? b = some o → s.heap.get? b = some o := fun b o y => (z.bs b o y).1
  have KS : K.In s.heap := z.mod.kin.keeps held
  have parL : ∀ y ∈ ps.zip us, (defScope st).names.lookup y.1 = some .local ∨ ((defScope st).names.lookup y.1 = some .cell ∧ ((cellsFrom (s.heap.objs.size + 1) (defScope st).names []).lookup y.1).isSome = true) := by
    rintro ⟨n, v⟩ hy
    cases S.par n (List.of_mem_zip hy).1 with
    | inl q => exact .inl q
    | inr q => exact .inr ⟨q, PySem.W.cellsFrom_some _ _ _ (.inl q)⟩
  refine codeAny_call_function room.depth (KS _ _ look) rfl S.co S.gen rfl (PySem.W.codeRec_of KS cdOk) (bound _ _ _ _ ?_)
  refine wpAny_newFunctionEnv_cells S.kind parL ?_
  rintro env rfl s1 y
  refine ⟨(z.mod.nolimit.keeps held).keeps y.toInCall.keep, codeAny_func ?_⟩
  obtain ⟨t, ht, ends⟩ := hb cdv A fr s H vs Q E hg (room.deeper _) told
  have I := inv_start (CX := CX0) (P := P) (mg := mg) (E := E) S room.hd z (many _ _ _ _ told) rv y
  refine wpAny_mono (ht.nox.run [] s1 (start N vs) H _ I ends) ?_ (fun _ _ q => q)
  intro fl s2 hs
  cases fl with
  | ret u => obtain ⟨v, σ2, H2, J, r2, q⟩ := hs; exact ⟨v, H2, J.os, J.bare, J.base, J.hok, r2, q⟩
  | next => obtain ⟨σ2, H2, J, q⟩ := hs; exact ⟨V.non, H2, J.os, J.bare, J.base, J.hok, rfl, q⟩
  | brk => obtain ⟨_, _, _, q⟩ := hs; exact q.elim
  | cont => obtain ⟨_, _, _, q⟩ := hs; exact q.elim

theorem Vow.of (F : FnOk P w K mg base CX0 k f fd ps sp) : Vow P w K mg base k f fd ps sp :=
  ⟨F.len, fun A fr s H g us vs Q E _ room z bound rv told => F.run A fr s H g us vs Q E room z bound rv told⟩
end

section
variable {X : Cx} {k : Nat} {f : Addr} {fd : FuncData} {ps : List Str} {sp : Sp} {x : Str} {p pos : Pos} {e : Expr} {es : List Expr} {t : TA}
/-- f(e, ..) of a def that vows -/
theorem pe_vow (F : Vow X.prog X.w X.K X.mg X.base k f fd ps sp) (hq : X.A.guards = some []) (hr : Room k X.A) (hg : Gl X x) (hm : X.mg x = some (.ref f)) (hk : PySem.W.keepIn X.K (.ref f) = true) (hb : Binds X.K fd ps [])
    (ha : PA X (e :: es) t) (hdb : (x == ("__debug__" : Str)) = false := by decide) (he : starEach (e :: es) X.env = (false, eval e X.env) :: starEach es X.env := by rfl) (hpl : (backTo pos (starEach es X.env)).any (·.1) = false := by rfl) :
    PE X (.Call (.Name x p) (e :: es) [] pos) (tCall sp [] E0 t) := by
  refine ⟨fun pins s σ H Q I told => wpAny_Call_Name_kw (ld_glob I hg hm ?_ hdb)⟩
  refine PySem.W.callWith_K (h₀ := X.base) I.ok.mod.kin hk (thn (ha.run pos pins s σ H _ I told) ?_) he hpl
  rintro us s1 ⟨vs, H1, I1, rv, q⟩
  refine ⟨I1.kIn, ?_⟩
  have q : sp (vs ++ []) H1 Q E0 := q
  rw [List.append_nil] at q
  have hl : (us ++ []).length = ps.length := by rw [List.append_nil, ← rv.length]; exact F.many _ _ _ _ q
  have hb1 := hb s1 us I1.kIn hl
  rw [List.append_nil] at hb1
  refine wpAny_call (codeAny_mono (F.goes X.A X.stack s1 H1 ⟨us, []⟩ us vs Q E0 hq hr I1.env0 hb1 rv q) ?_)
  intro r s2 out
  cases r with
  | error _ => exact False.elim out
  | ok fl =>
    cases fl with
    | ret u => exact I1.after out
    | next => exact False.elim out
    | brk => exact False.elim out
    | cont => exact False.elim out

/-- repr(x) of data -/
def rShow (K : PySem.W.Frag) : List V → Hp → VK → Prop := fun xs H Q => ∃ (a : Addr) (d : PyData), xs = [.ref a] ∧ Dp K H (.ref a) d ∧ d.showable = true ∧ d.hasDict = false ∧ d.depth ≤ 20 ∧ d.shown.length ≤ sizeLine ∧ Q (.str d.shown) H
theorem call_show (hq : X.A.guards = some []) (hu : X.A.units + 64 < cLine) : CallR X (.builtin "repr") (rShow X.K) := by
  rintro pins s σ H xs us Q I rv ⟨a, d, rfl, hd, h1, h2, h3, h4, q⟩
  obtain ⟨u, rfl, rfl⟩ := vals1 rv
  obtain ⟨as, rd⟩ := Dp.reads I d _ _ hd rfl
  exact repr_of_reads' rd h1 (PyData.noDict_hsm h2) hq (by omega) (fun _ _ y => y) (fun h' u tk kp => ⟨.str d.shown, H, I.kept kp, ⟨_, rfl⟩, q⟩) h4
end

/-! the law's end -/
section
variable {P : Program} {w : World} {K : PySem.W.Frag} {mg mb : Str → Option Value} {k : Nat} {fa a : Addr} {fd : FuncData} {x : Str} {sp : Sp} {s : Shared} {vs : List Value} {ns : List Int}
theorem end_vow (kin : K.In s.heap) (nsm : s.heap.Ns mainGlobals mg) (nsb : s.heap.Ns builtinsNs mb) (boot : ∀ y : Str, y ≠ "__name__" → mb y = bootBuiltins y) (lim : s.heap.NoLimit) (gens : s.gens = #[])
    (at_ : s.heap.get? a = some { cls := .type "list", data := .seq vs.toArray }) (iv : IntsAre vs ns) (short : ns.length ≤ sizeLine) (room : Room k callerA)
    (F : ∀ base : Heap, K.In base → base.Ns mainGlobals mg → Vow P w K mg base k fa fd [x] sp) (bound : ∀ (z : Shared) (u : Value), BindsTo z fd ⟨[u], []⟩ [(x, u)])
    (told : ∀ H : Hp, Only H → SqL K H a (ns.map V.int) → sp [.ref a] H (fun v _ => v = .bl true) E0) :
    codeAny (model P w) callerA (.call (.ref fa) ⟨[.ref a], []⟩) (fun r s' => r = .ok (.ret (.bool true)) ∧ OldK s.heap s'.heap ∧ s'.os = s.os ∧ AllBare s'.gens) s := by
  have many : ns.length = vs.length := by rw [iv.length]
  have main : ∀ H : Hp, Only H → SqL K H a (ns.map V.int) → HOk P w H s.heap → (∀ b u, H b = some u → b = a ∧ K.lookup a = none) →
      codeAny (model P w) callerA (.call (.ref fa) ⟨[.ref a], []⟩) (fun r s' => r = .ok (.ret (.bool true)) ∧ OldK s.heap s'.heap ∧ s'.os = s.os ∧ AllBare s'.gens) s := by
    intro H only lst ok alone
    have free : ∀ b o, s.heap.get? b = some o → o ≠ { cls := .type "list", data := .seq vs.toArray } → H b = none := by
      intro b o y ne
      cases q : H b with
      | none => rfl
      | some u =>
        obtain ⟨rfl, _⟩ := alone b u q
        rw [at_] at y
        exact absurd (Option.some.inj y).symm ne
    have nsk : ∀ {b : Addr} {m : Str → Option Value}, s.heap.Ns b m → (hidT s.heap H).Ns b m := by
      rintro b m ⟨o, es, ep, y, dd, r⟩
      refine ⟨o, es, ep, hidT_get y (free b o y ?_), dd, r⟩
      rintro rfl
      have dd2 : Data.seq vs.toArray _ = Data.dict es ep := dd
      cases dd2
    have kinB : K.In (hidT s.heap H) := by
      intro b o y
      refine hidT_get (kin b o y) ?_
      cases q : H b with
      | none => rfl
      | some u =>
        obtain ⟨rfl, no⟩ := alone b u q
        rw [no] at y
        cases y
    obtain ⟨mc, c1, c2⟩ := lim
    have md : Mod K mg (hidT s.heap H) := ⟨kinB, nsk nsm, ⟨mb, nsk nsb, boot⟩, mc, nsk c1, c2⟩
    have noL : ∀ {b : Addr}, b ∉ ([] : List Addr) := fun h => by cases h
    have z : Env0 P w K mg (hidT s.heap H) callerA [] s H := ⟨rfl, md, fun b o y => of_hidT y, Nat.le_of_eq (hidT_size _ _), trivial, fun b h => absurd h noL, ok, .of_eq gens⟩
    have run := (F _ kinB (nsk nsm)).goes callerA [] s H ⟨[.ref a], []⟩ [.ref a] [.ref a] _ _ rfl room z (bound s (.ref a)) (.cons rfl .nil) (told H only lst)
    refine codeAny_mono run ?_
    intro r s2 out
    cases r with
    | error _ => exact False.elim out
    | ok fl =>
      cases fl with
      | next => exact False.elim out
      | brk => exact False.elim out
      | cont => exact False.elim out
      | ret u =>
        obtain ⟨v, H2, os, bare, un, ok2, r2, rfl⟩ := out
        obtain rfl : u = Value.bool true := r2
        refine ⟨rfl, OldK.of_keep (fun b o y => ?_), os, bare⟩
        cases q : H b with
        | none => exact un.keep b o y q noL noL
        | some u =>
          rcases only b with n | ⟨ob, xs, n⟩
          · rw [q] at n
            cases n
          · obtain ⟨y1, _⟩ := ok b _ n
            obtain ⟨y2, _⟩ := ok2 b _ (un.frzs b ob _ n)
            rw [y] at y1
            cases y1
            exact y2
  have rv : Vals (ns.map V.int) vs := vals_ints iv
  cases hk : K.lookup a with
  | some o =>
    have y := kin a o hk
    rw [at_] at y
    cases y
    refine main (fun _ => none) (fun _ => .inl rfl) (.inr ⟨_, vs.toArray, _, hk, rfl, rfl, rfl, by rw [List.size_toArray, ← many]; exact short, by simpa using rv⟩) (fun b u q => ?_) (fun b u q => ?_)
    · have q : (none : Option HO) = some u := q
      cases q
    · have q : (none : Option HO) = some u := q
      cases q
  | none =>
    refine main (fun b => if b = a then some (.frz { cls := .type "list", data := .seq vs.toArray } (.lst (ns.map V.int))) else none) (fun b => ?_) (.inl (.inr ⟨{ cls := .type "list", data := .seq vs.toArray }, if_pos rfl⟩)) (fun b u q => ?_) (fun b u q => ?_)
    · by_cases hb : b = a
      · exact .inr ⟨_, _, if_pos hb⟩
      · exact .inl (if_neg hb)
    · by_cases hb : b = a
      · subst hb
        cases (if_pos rfl).symm.trans q
        exact ⟨at_, by rw [List.length_map]; exact short, vs, _, rv, at_⟩
      · cases (if_neg hb).symm.trans q
    · by_cases hb : b = a
      · exact ⟨hb, hk⟩
      · cases (if_neg hb).symm.trans q

theorem walk_vow {l : PySem.W.OpenLaw} {q : Program} {loose : List Str} {XP : (Str → Option Value) → Heap → Prop} {YP : World → Heap → Prop} {d : DefRec} {K : Params → PySem.W.Frag} {sp : PySem.W.Frag → Sp}
    (most : l.most = some 63) (dflt : d.params.defaults = []) (room : Room k callerA) (hY : ∀ (w : World) (h : Heap), YP w h → (K w.params).In h)
    (F : ∀ (w : World) (mg : Str → Option Value) (fa : Addr) (h : Heap), (K w.params).In h → h.Ns mainGlobals mg → mg d.name = some (.ref fa) →
      ∃ fd : FuncData, (∀ (z : Shared) (u : Value), BindsTo z fd ⟨[u], []⟩ [(x, u)]) ∧ ∀ base : Heap, (K w.params).In base → base.Ns mainGlobals mg → Vow l.prog w (K w.params) mg base k fa fd [x] (sp (K w.params)))
    (told : ∀ (K : PySem.W.Frag) (H : Hp) (a : Addr) (ns : List Int), ns.length ≤ 63 → Only H → SqL K H a (ns.map V.int) → sp K [.ref a] H (fun v _ => v = .bl true) E0) :
    PySem.W.WalkO q loose XP YP l.row.toRowW d [] (fun f vs => PySem.call f vs) := by
  refine Att.attach_call most dflt ?_
  intro w s0 s1 mg mb fa o pm cd doc a vs ns G Y ho hd hcd hmg hobj iv short gens
  have kin := hY w _ Y
  obtain ⟨fd, hb, hF⟩ := F w mg fa _ kin G.T.g hmg
  exact end_vow kin G.T.g G.T.b G.T.builtins G.T.nolimit gens hobj iv (Nat.le_trans short (by decide)) room hF hb (fun H only lst => told _ H a ns short only lst)
end
end Kn


/-! Kn: texts: lengths and signs; the pure defs of the program and of the law. -/
namespace Kn
open PySem PySem.Spec PyProof.Rows L2

/-! ### texts -/
def Fit (n : Nat) (x : Str) : Prop := x.length ≤ n ∧ ∀ c ∈ x.cps.toList, c < 16 ^ 8
theorem Fit.mono {n m : Nat} {x : Str} (h : Fit n x) (l : n ≤ m) : Fit m x := ⟨Nat.le_trans h.1 l, h.2⟩
theorem len_app (a b : Str) : (a ++ b).length = a.length + b.length := by
  show (a.cps ++ b.cps).size = _
  rw [Array.size_append]
  rfl
theorem Fit.app {n m : Nat} {a b : Str} (h : Fit n a) (k : Fit m b) : Fit (n + m) (a ++ b) := by
  refine ⟨by rw [len_app]; have := h.1; have := k.1; omega, fun c hc => ?_⟩
  have hc : c ∈ (a.cps ++ b.cps).toList := hc
  rw [Array.toList_append, List.mem_append] at hc
  exact hc.elim (h.2 c) (k.2 c)
theorem app_assoc (a b c : Str) : a ++ b ++ c = a ++ (b ++ c) := by
  show Str.mk (a.cps ++ b.cps ++ c.cps) = Str.mk (a.cps ++ (b.cps ++ c.cps))
  rw [Array.append_assoc]
theorem nil_app (a : Str) : Str.empty ++ a = a := by
  show Str.mk (#[] ++ a.cps) = a
  rw [Array.empty_append]
theorem Fit.join {n m : Nat} {y : Str} (hy : Fit m y) : ∀ (xs : List Str), (∀ x ∈ xs, Fit n x) → Fit (xs.length * (n + m)) (Str.join y xs)
  | [], _ => ⟨Nat.zero_le _, fun c hc => by cases hc⟩
  | [x], h => (h x (List.mem_cons_self ..)).mono (by rw [List.length_singleton]; omega)
  | x :: z :: r, h => by
    have ih := Fit.join hy (z :: r) fun v hv => h v (List.mem_cons_of_mem _ hv)
    have q := ((h x (List.mem_cons_self ..)).app hy).app ih
    refine q.mono ?_
    simp only [List.length_cons, Nat.add_mul, Nat.one_mul]
    omega
theorem fit_string (s : String) : ∀ c ∈ (Str.ofString s).cps.toList, c < 16 ^ 8 := by
  intro c hc
  rw [Str.ofString_eq_toList] at hc
  have hc : c ∈ s.toList.map Char.toNat := by simpa using hc
  obtain ⟨d, _, rfl⟩ := List.mem_map.mp hc
  have h : d.toNat < 1114112 := by
    have v := d.valid
    have e : d.toNat = d.val.toNat := rfl
    rcases v with v | ⟨_, v⟩
    · rw [e]; have v : d.val.toNat < 55296 := v; omega
    · rw [e]; exact v
  exact Nat.lt_trans h (by decide)
theorem len_string (s : String) : (Str.ofString s).length = s.toList.length := by
  rw [Str.ofString_eq_toList]
  show ((s.toList.map Char.toNat).toArray).size = _
  rw [List.size_toArray, List.length_map]

/-! ### comprehensions that change nothing -/
theorem tupS {K : PySem.W.Frag} {H H' : Hp} {a : Addr} {xs : List V} (e : Same H H') (h : SqT K H a xs) : SqT K H' a xs := by
  rcases h with (h | ⟨o, h⟩) | h
  · exact .inl (.inl (e _ _ h))
  · exact .inl (.inr ⟨o, e _ _ h⟩)
  · exact .inr h
theorem same_new {H : Hp} {p : Addr} {o : HO} (h : H p = none) : Same H (upd H p o) := fun b x e => by
  rw [upd_ne (ne_of_none e h)]
  exact e
theorem putS {H H' : Hp} {p : Addr} {o : HO} (e : Same H H') (h : H p = none) : Same H (upd H' p o) := fun b x q => by
  rw [upd_ne (ne_of_none q h)]
  exact e _ _ q
theorem small' {n : Nat} (h : n ≤ 1000) : n < sizeLine := Nat.lt_of_le_of_lt h (by decide)
theorem take_next {ys : List V} {i : Nat} {y : V} (h : ys[i]? = some y) : ys.take i ++ [y] = ys.take (i + 1) := by
  rw [List.take_add_one, h]
  rfl
theorem lc_mapT {K : PySem.W.Frag} {a : Addr} {xs : List V} {slot : Nat} {te tl : TE} {vs : List Nat} {σ : L2.St} {H : Hp} {Q : VK} (ys : List V) (hl : ys.length = xs.length) (hs : xs.length ≤ 1000) (hT : SqT K H a xs)
    (htl : ∀ R : VK, R (.ref a) H → tl σ H R) (w : ∀ v, wipe ((wipe σ vs).set slot (some v)) vs = wipe σ vs)
    (turn : ∀ (i : Nat) (x y : V) (G : Hp) (R : VK), xs[i]? = some x → ys[i]? = some y → Same H G → (∀ G', Same G G' → R y G') → te ((wipe σ vs).set slot (some x)) G R)
    (done : ∀ (D : Addr) (G : Hp), H D = none → Same H G → G D = some (.lst ys) → Q (.ref D) G) : tLc (iTup K tl) (gName slot) tYes te vs σ H Q := by
  refine htl _ ⟨a, rfl, ⟨xs, hT⟩, fun D nD => ?_⟩
  refine lc_tup (K := K) (a := a) (xs := xs) (fun i G => Same H G ∧ G D = some (.lst (ys.take i))) ⟨same_new nD, upd_same⟩ (fun i G _ h => tupS h.1 hT) ?_ ?_
  · rintro i x G hx ⟨sm, hD⟩
    have hi : i < xs.length := (List.getElem?_eq_some_iff.mp hx).1
    have hy : ys[i]? = some (ys[i]'(by omega)) := List.getElem?_eq_getElem (by omega)
    refine ⟨w x, ?_⟩
    simp only [tYes, ↓reduceIte]
    refine turn i x _ G _ hx hy sm fun G' s' => ⟨ys.take i, s' _ _ hD, ?_, ?_, ?_⟩
    · rw [List.length_take]
      exact small' (by omega)
    · exact putS (sm.trans s') nD
    · rw [upd_same, take_next hy]
  · rintro G ⟨sm, hD⟩
    refine done D G nD sm ?_
    rw [hD, List.take_of_length_le (by omega)]
theorem lc_mapL {K : PySem.W.Frag} {a : Addr} {xs : List V} {slot : Nat} {te tl : TE} {vs : List Nat} {σ : L2.St} {H : Hp} {Q : VK} (ys : List V) (hl : ys.length = xs.length) (hs : xs.length ≤ 1000) (hT : SqL K H a xs)
    (htl : ∀ R : VK, R (.ref a) H → tl σ H R) (w : ∀ v, wipe ((wipe σ vs).set slot (some v)) vs = wipe σ vs)
    (turn : ∀ (i : Nat) (x y : V) (G : Hp) (R : VK), xs[i]? = some x → ys[i]? = some y → Same H G → (∀ G', Same G G' → R y G') → te ((wipe σ vs).set slot (some x)) G R)
    (done : ∀ (D : Addr) (G : Hp), H D = none → Same H G → G D = some (.lst ys) → Q (.ref D) G) : tLc (iList K tl) (gName slot) tYes te vs σ H Q := by
  refine htl _ ⟨a, rfl, ⟨xs, hT⟩, fun D nD => ?_⟩
  refine lc_list (K := K) (a := a) (xs := xs) (fun i G => Same H G ∧ G D = some (.lst (ys.take i))) ⟨same_new nD, upd_same⟩ (fun i G _ h => h.1.seq hT) ?_ ?_
  · rintro i x G hx ⟨sm, hD⟩
    have hi : i < xs.length := (List.getElem?_eq_some_iff.mp hx).1
    have hy : ys[i]? = some (ys[i]'(by omega)) := List.getElem?_eq_getElem (by omega)
    refine ⟨w x, ?_⟩
    simp only [tYes, ↓reduceIte]
    refine turn i x _ G _ hx hy sm fun G' s' => ⟨ys.take i, s' _ _ hD, ?_, ?_, ?_⟩
    · rw [List.length_take]
      exact small' (by omega)
    · exact putS (sm.trans s') nD
    · rw [upd_same, take_next hy]
  · rintro G ⟨sm, hD⟩
    refine done D G nD sm ?_
    rw [hD, List.take_of_length_le (by omega)]

/-! ### str of an int or a text -/
def shV : V → Str
  | .int i => Str.ofString (toString i)
  | .str z => z
  | _ => Str.empty
def FlatV : V → Prop
  | .int i => i.natAbs.log2 < 1920
  | .str _ => True
  | _ => False
theorem call_str_flat {X : Cx} : CallR X (.type "str") (fun xs H Q => ∃ v, xs = [v] ∧ FlatV v ∧ Q (.str (shV v)) H) := by
  rintro pins s σ H xs us Q I rv ⟨v, rfl, hv, q⟩
  cases v with
  | int i => exact call_str_int pins s σ H _ us Q I rv ⟨i, rfl, hv, q⟩
  | str z => exact SkE.call_str_str pins s σ H _ us Q I rv ⟨z, rfl, q⟩
  | _ => exact hv.elim

/-! ### the data -/
structure Ent where
  name : Str
  fee : Int
  has : Bool
  row : List Str
def Ent.ok (e : Ent) : Prop := Fit 8 e.name ∧ e.fee.natAbs < 10 ^ 60 ∧ e.row.length ≤ 8 ∧ ∀ s ∈ e.row, Fit 8 s
def EntAt (K : PySem.W.Frag) (H : Hp) (v : V) (e : Ent) : Prop := ∃ p q, v = .ref p ∧ SqT K H p [.str e.name, .int e.fee, .bl e.has, .ref q] ∧ SqT K H q (e.row.map V.str)
inductive EntsAt (K : PySem.W.Frag) (H : Hp) : List V → List Ent → Prop
  | nil : EntsAt K H [] []
  | cons {v : V} {vs : List V} {e : Ent} {es : List Ent} : EntAt K H v e → EntsAt K H vs es → EntsAt K H (v :: vs) (e :: es)
theorem EntAt.same {K : PySem.W.Frag} {H H' : Hp} {v : V} {e : Ent} (s : Same H H') : EntAt K H v e → EntAt K H' v e := fun ⟨p, q, a, b, c⟩ => ⟨p, q, a, tupS s b, tupS s c⟩
theorem EntsAt.same {K : PySem.W.Frag} {H H' : Hp} (s : Same H H') : ∀ {vs : List V} {es : List Ent}, EntsAt K H vs es → EntsAt K H' vs es
  | _, _, .nil => .nil
  | _, _, .cons a b => .cons (a.same s) (EntsAt.same s b)
theorem EntsAt.len {K : PySem.W.Frag} {H : Hp} : ∀ {vs : List V} {es : List Ent}, EntsAt K H vs es → vs.length = es.length
  | _, _, .nil => rfl
  | _, _, .cons _ b => congrArg Nat.succ (EntsAt.len b)
theorem EntsAt.get {K : PySem.W.Frag} {H : Hp} : ∀ {vs : List V} {es : List Ent} {i : Nat} {v : V}, EntsAt K H vs es → vs[i]? = some v → ∃ e, es[i]? = some e ∧ EntAt K H v e
  | _, _, i, v, .nil, h => by cases h
  | _, _, 0, v, .cons a b, h => by
    have h : some _ = some v := h
    cases h
    exact ⟨_, rfl, a⟩
  | _, _, i + 1, v, .cons a b, h => EntsAt.get (i := i) b h
theorem EntsAt.append {K : PySem.W.Frag} {H : Hp} : ∀ {vs ws : List V} {es ds : List Ent}, EntsAt K H vs es → EntsAt K H ws ds → EntsAt K H (vs ++ ws) (es ++ ds)
  | _, _, _, _, .nil, h => h
  | _, _, _, _, .cons a b, h => .cons a (EntsAt.append b h)
theorem EntsAt.rev {K : PySem.W.Frag} {H : Hp} : ∀ {vs : List V} {es : List Ent}, EntsAt K H vs es → EntsAt K H vs.reverse es.reverse
  | _, _, .nil => .nil
  | _, _, .cons a b => by
    rw [List.reverse_cons, List.reverse_cons]
    exact (EntsAt.rev b).append (.cons a .nil)
structure Pg where
  es : List Ent
  asks : Str
def Pg.ok (g : Pg) : Prop := g.es.length ≤ 12 ∧ (∀ e ∈ g.es, e.ok) ∧ Fit 8 g.asks
def PgAt (K : PySem.W.Frag) (H : Hp) (v : V) (g : Pg) : Prop := ∃ p q vs, v = .ref p ∧ SqT K H p [.ref q, .str g.asks] ∧ SqT K H q vs ∧ EntsAt K H vs g.es
theorem PgAt.same {K : PySem.W.Frag} {H H' : Hp} {v : V} {g : Pg} (s : Same H H') : PgAt K H v g → PgAt K H' v g := fun ⟨p, q, vs, a, b, c, d⟩ => ⟨p, q, vs, a, tupS s b, tupS s c, d.same s⟩

/-! ### the texts -/
def tabT (t : List Str) : Str := if t = [] then ("-" : Str) else Str.join "," t
def wordT (b : Bool) : Str := if b = true then ("has" : Str) else ("not" : Str)
def feeT (i : Int) : Str := Str.ofString (toString i)
def lineT (e : Ent) : Str := Str.join " " ["kind", e.name, feeT e.fee, wordT e.has, tabT e.row]
def pageT (g : Pg) : Str := Str.join "\n" (g.es.map lineT ++ [("asker " : Str) ++ g.asks])
theorem fit_of (s : String) {n : Nat} (h : s.toList.length ≤ n) : Fit n (Str.ofString s) := ⟨by rw [len_string]; exact h, fit_string s⟩
theorem fee_log {i : Int} (h : i.natAbs < 10 ^ 60) : i.natAbs.log2 < 1920 := by
  by_cases z : i.natAbs = 0
  · rw [z]; decide
  · exact (Nat.log2_lt z).mpr (Nat.lt_trans h (by decide))
theorem feeT_fit {i : Int} (h : i.natAbs < 10 ^ 60) : Fit 61 (feeT i) := by
  refine fit_of _ ?_
  have := int_text_length_le10 (k := 60) (by decide) h
  rw [String.length_toList]
  exact this
theorem tabT_fit {t : List Str} (h : t.length ≤ 8) (k : ∀ s ∈ t, Fit 8 s) : Fit 100 (tabT t) := by
  unfold tabT
  split
  · exact fit_of "-" (by decide)
  · refine (Fit.join (m := 1) (fit_of "," (by decide)) t k).mono ?_
    have := Nat.mul_le_mul_right (8 + 1) h
    omega
theorem wordT_fit (b : Bool) : Fit 3 (wordT b) := by
  unfold wordT
  split
  · exact fit_of "has" (by decide)
  · exact fit_of "not" (by decide)
theorem lineT_fit {e : Ent} (h : e.ok) : Fit 600 (lineT e) := by
  obtain ⟨h1, h2, h3, h4⟩ := h
  refine (Fit.join (n := 100) (m := 1) (fit_of " " (by decide)) _ ?_).mono (by simp)
  intro x hx
  simp only [List.mem_cons, List.not_mem_nil, or_false] at hx
  rcases hx with rfl | rfl | rfl | rfl | rfl
  · exact (fit_of "kind" (n := 100) (by decide))
  · exact h1.mono (by omega)
  · exact (feeT_fit h2).mono (by omega)
  · exact (wordT_fit _).mono (by omega)
  · exact (tabT_fit h3 h4)
theorem askT_fit {g : Pg} (h : g.ok) : Fit 600 (("asker " : Str) ++ g.asks) := ((fit_of "asker " (n := 6) (by decide)).app h.2.2).mono (by omega)
theorem pageT_fit {g : Pg} (h : g.ok) : Fit 10000 (pageT g) := by
  refine (Fit.join (n := 600) (m := 1) (fit_of "\n" (by decide)) _ ?_).mono ?_
  · intro x hx
    rcases List.mem_append.mp hx with hx | hx
    · obtain ⟨e, he, rfl⟩ := List.mem_map.mp hx
      exact lineT_fit (h.2.1 e he)
    · obtain rfl := List.mem_singleton.mp hx
      exact askT_fit h
  · have := Nat.mul_le_mul_right (600 + 1) h.1
    rw [List.length_append, List.length_map, List.length_singleton, Nat.add_mul]
    omega
theorem kind_sp : ("kind " : Str) = ("kind" : Str) ++ (" " : Str) := by decide +kernel
theorem line_chain (e : Ent) : Str.empty ++ ("kind " : Str) ++ e.name ++ (" " : Str) ++ feeT e.fee ++ (" " : Str) ++ wordT e.has ++ (" " : Str) ++ tabT e.row = lineT e := by
  unfold lineT
  simp only [Str.join, app_assoc, nil_app, kind_sp]
end Kn


namespace Kn
open PySem PySem.Spec PyProof.Rows L2
def topS (i : Nat) : Stmt := PySem.Challenge.pw_firstletter_k01_values_of_each_form.main.body.getD i (.Pass ⟨0, 0, 0, 0⟩)
theorem sum_le {n : Nat} : ∀ (ys : List Str), (∀ y ∈ ys, Fit n y) → (ys.map (·.length)).sum ≤ ys.length * n
  | [], _ => Nat.zero_le _
  | y :: r, h => by
    have ih := sum_le r fun v hv => h v (List.mem_cons_of_mem _ hv)
    have q := (h y (List.mem_cons_self ..)).1
    rw [List.map_cons, List.sum_cons, List.length_cons, Nat.add_mul]
    omega
/-- what join asks: few short texts -/
theorem join_room {n m : Nat} {a : Str} {ys : List Str} (h : ∀ y ∈ ys, Fit n y) (ha : a.length ≤ 10) (hl : ys.length ≤ m) (hm : m * (n + 10) ≤ 16777216) : (ys.map (·.length)).sum + ys.length * a.length ≤ 16777216 := by
  have h1 := sum_le ys h
  have h2 : ys.length * (n + 10) ≤ m * (n + 10) := Nat.mul_le_mul_right _ hl
  have h3 : ys.length * a.length ≤ ys.length * 10 := Nat.mul_le_mul_left _ ha
  rw [Nat.mul_add] at h2
  omega
theorem size16 : 16777216 ≤ sizeLine := by decide
theorem map_get {α β : Type} {f : α → β} {l : List α} {i : Nat} {y : β} (h : (l.map f)[i]? = some y) : ∃ x, l[i]? = some x ∧ f x = y := by
  rw [List.getElem?_map] at h
  exact Option.map_eq_some_iff.mp h
theorem seq_asg {te : TE} {g : TG} {u : TS} {D : Ends} {σ : L2.St} {H : Hp} (h : te σ H fun x H1 => g x σ H1 (u D)) : tSeq (tAsg te g) u D σ H := h
theorem big_of {n : Nat} {x : Str} (h : Fit n x) (l : n ≤ 100000) : x.length ≤ sizeLine := Nat.le_trans h.1 (Nat.le_trans l (by decide))
end Kn


namespace Kn
open PySem PySem.Spec PyProof.Rows L2
/-! ### the feed -/
abbrev kCells : Key := .inr "cells"
abbrev kAt : Key := .inr "at"
abbrev kHeld : Key := .inr "held"
abbrev kCount : Key := .inr "count"
theorem d1 : ¬ kCells = kAt := by decide +kernel
theorem d2 : ¬ kCells = kHeld := by decide +kernel
theorem d3 : ¬ kCells = kCount := by decide +kernel
theorem d4 : ¬ kAt = kHeld := by decide +kernel
theorem d5 : ¬ kAt = kCount := by decide +kernel
theorem d6 : ¬ kHeld = kCount := by decide +kernel
structure Four (a : Addr) (t h n : Int) (kvs : List (Key × V)) : Prop where
  few : kvs.length ≤ 4
  cells : valV kvs kCells = some (.ref a)
  at_ : valV kvs kAt = some (.int t)
  held : valV kvs kHeld = some (.int h)
  count : valV kvs kCount = some (.int n)
theorem putK_len {kvs : List (Key × V)} {k : Key} {x v : V} (h : valV kvs k = some x) : (putK kvs k v).length = kvs.length := by
  unfold putK
  rw [if_pos (by rw [valV_any, h]; rfl), List.length_map]
section
variable {a : Addr} {t h n : Int} {kvs : List (Key × V)}
theorem Four.put_at (q : Four a t h n kvs) (x : Int) : Four a x h n (putK kvs kAt (.int x)) :=
  ⟨by rw [putK_len q.at_]; exact q.few, by rw [valV_put, if_neg d1]; exact q.cells, by rw [valV_put, if_pos rfl], by rw [valV_put, if_neg fun e => d4 e.symm]; exact q.held, by rw [valV_put, if_neg fun e => d5 e.symm]; exact q.count⟩
theorem Four.put_held (q : Four a t h n kvs) (x : Int) : Four a t x n (putK kvs kHeld (.int x)) :=
  ⟨by rw [putK_len q.held]; exact q.few, by rw [valV_put, if_neg d2]; exact q.cells, by rw [valV_put, if_neg d4]; exact q.at_, by rw [valV_put, if_pos rfl], by rw [valV_put, if_neg fun e => d6 e.symm]; exact q.count⟩
theorem Four.put_count (q : Four a t h n kvs) (x : Int) : Four a t h x (putK kvs kCount (.int x)) :=
  ⟨by rw [putK_len q.count]; exact q.few, by rw [valV_put, if_neg d3]; exact q.cells, by rw [valV_put, if_neg d5]; exact q.at_, by rw [valV_put, if_neg d6]; exact q.held, by rw [valV_put, if_pos rfl]⟩
theorem four_new (a : Addr) : Four a 0 0 0 (mergeK [] [(kCells, .ref a), (kAt, .int 0), (kHeld, .int 0), (kCount, .int 0)]) := by
  have e : mergeK [] [(kCells, V.ref a), (kAt, .int 0), (kHeld, .int 0), (kCount, .int 0)] = putK (putK (putK (putK [] kCells (.ref a)) kAt (.int 0)) kHeld (.int 0)) kCount (.int 0) := rfl
  refine ⟨length_mergeK _ _, ?_, ?_, ?_, ?_⟩
  · rw [e, valV_put, if_neg d3, valV_put, if_neg d2, valV_put, if_neg d1, valV_put, if_pos rfl]
  · rw [e, valV_put, if_neg d5, valV_put, if_neg d4, valV_put, if_pos rfl]
  · rw [e, valV_put, if_neg d6, valV_put, if_pos rfl]
  · rw [e, valV_put, if_pos rfl]
end
/-- the feed at f, its cells at a; at most c draws were made -/
structure Fd (f a : Addr) (ns : List Int) (H : Hp) (c : Nat) : Prop where
  ex : ∃ kvs t h n, H f = some (.dK kvs) ∧ Four a t h n kvs ∧ 0 ≤ t ∧ t ≤ n ∧ n ≤ (c : Int)
  cl : H a = some (.lst (ns.map V.int))
  few : ns.length ≤ 63
def Keep (f : Addr) (H H' : Hp) : Prop := ∀ b o, b ≠ f → H b = some o → H' b = some o
theorem Keep.refl (f : Addr) (H : Hp) : Keep f H H := fun _ _ _ h => h
theorem Keep.trans {f : Addr} {H H1 H2 : Hp} (a : Keep f H H1) (b : Keep f H1 H2) : Keep f H H2 := fun c o n h => b c o n (a c o n h)
theorem keep_same {f : Addr} {H H1 : Hp} (s : Same H H1) : Keep f H H1 := fun b o _ h => s b o h
theorem keep_upd {f : Addr} {H : Hp} {o : HO} : Keep f H (upd H f o) := fun b x n h => by rw [upd_ne n]; exact h
theorem Fd.more {f a : Addr} {ns : List Int} {H : Hp} {c d : Nat} (h : Fd f a ns H c) (l : c ≤ d) : Fd f a ns H d := by
  obtain ⟨⟨kvs, t, x, n, h1, h2, h3, h4, h5⟩, h6, h7⟩ := h
  exact ⟨⟨kvs, t, x, n, h1, h2, h3, h4, by omega⟩, h6, h7⟩
theorem Fd.same {f a : Addr} {ns : List Int} {H H' : Hp} {c : Nat} (h : Fd f a ns H c) (s : Same H H') : Fd f a ns H' c := by
  obtain ⟨⟨kvs, t, x, n, h1, h2⟩, h6, h7⟩ := h
  exact ⟨⟨kvs, t, x, n, s _ _ h1, h2⟩, s _ _ h6, h7⟩
/-- a list of one's own changes -/
theorem Fd.own {f a D : Addr} {ns : List Int} {H : Hp} {c : Nat} {o : HO} (h : Fd f a ns H c) (n1 : f ≠ D) (n2 : a ≠ D) : Fd f a ns (upd H D o) c := by
  obtain ⟨⟨kvs, t, x, n, h1, h2⟩, h6, h7⟩ := h
  exact ⟨⟨kvs, t, x, n, by rw [upd_ne n1]; exact h1, h2⟩, by rw [upd_ne n2]; exact h6, h7⟩
theorem Fd.ne {f a : Addr} {ns : List Int} {H : Hp} {c : Nat} (h : Fd f a ns H c) : a ≠ f := by
  obtain ⟨⟨kvs, t, x, n, h1, _⟩, h6, _⟩ := h
  exact ne_of h6 h1 (by intro z; cases z)
theorem Fd.free {f a D : Addr} {ns : List Int} {H : Hp} {c : Nat} (h : Fd f a ns H c) (n : H D = none) : f ≠ D ∧ a ≠ D := by
  obtain ⟨⟨kvs, t, x, n', h1, _⟩, h6, _⟩ := h
  exact ⟨ne_of_none h1 n, ne_of_none h6 n⟩
/-- the feed's dict changes -/
theorem Fd.put {f a : Addr} {ns : List Int} {H : Hp} {c : Nat} {kvs : List (Key × V)} {t h n : Int} (q : Fd f a ns H c) (F : Four a t h n kvs) (h0 : 0 ≤ t) (h1 : t ≤ n) (h2 : n ≤ (c : Int)) : Fd f a ns (upd H f (.dK kvs)) c :=
  ⟨⟨kvs, t, h, n, upd_same, F, h0, h1, h2⟩, by rw [upd_ne q.ne]; exact q.cl, q.few⟩

theorem dpAll_ints {K : PySem.W.Frag} {H : Hp} : ∀ ns : List Int, DpAll K H (ns.map V.int) (ns.map PyData.int)
  | [] => .nil
  | n :: r => .cons (.int n) (dpAll_ints r)
end Kn


namespace Kn
open PySem PySem.Spec PyProof.Rows L2
abbrev nDraw : List Str := ["_law_feed", "_law_many", "_law_count", "_law_digit", "_law_cells", "_law_at", "_law_cell", "_law_mixed"]
theorem scDraw : FnScope nDraw ["_law_feed", "_law_many"] (defScope (topS 19)) := ⟨rfl, rfl, rfl, by decide +kernel, rfl, by decide +kernel, by decide +kernel⟩
theorem lay_ints : ∀ ns : List Int, PyData.canLayAll0 (ns.map PyData.int) = true
  | [] => rfl
  | n :: r => by
    show (PyData.canLay0 (.int n) && PyData.canLayAll0 (r.map PyData.int)) = true
    rw [lay_ints r]
    rfl
theorem depth_ints : ∀ ns : List Int, PyData.depthAll (ns.map PyData.int) = 0
  | [] => rfl
  | n :: r => by
    show max (PyData.depth (.int n)) (PyData.depthAll (r.map PyData.int)) = 0
    rw [depth_ints r]
    rfl
theorem shaped_ints (ns : List Int) : SeqAt.shaped (.list (ns.map PyData.int)) = true := by
  unfold SeqAt.shaped
  have h1 : PyData.canLay0 (.list (ns.map PyData.int)) = true := by
    show PyData.canLayAll0 (ns.map PyData.int) = true
    exact lay_ints ns
  have h2 : PyData.depth (.list (ns.map PyData.int)) = 1 := by
    show PyData.depthAll (ns.map PyData.int) + 1 = 1
    rw [depth_ints]
  rw [h1, h2]
  rfl
theorem eqv_nil_ints (ns : List Int) : PyData.eqv (.list (ns.map PyData.int)) (.list []) = ns.isEmpty := by
  cases ns with
  | nil => rfl
  | cons n r => rfl
theorem sq_bound {s : Int} (h0 : 0 ≤ s) (h1 : s ≤ 100001) : 0 ≤ 7001 * s * s ∧ 7001 * s * s ≤ 70571415787057 + 100000000000000 := by
  have a : 0 ≤ 7001 * s := by omega
  have b : 7001 * s ≤ 700107001 := by omega
  have c := Int.mul_nonneg a h0
  have d := Int.mul_le_mul b h1 h0 (by decide : (0 : Int) ≤ 700107001)
  exact ⟨c, Int.le_trans d (by decide)⟩
theorem at_mod {ns : List Int} {t : Int} (h : 0 ≤ t) (pos : 0 < ns.length) : ∃ x : Int, atI (ns.map V.int) (t % ((ns.map V.int).length : Int)) = some (.int x) := by
  rw [List.length_map]
  have h0 := Int.emod_nonneg t (show (ns.length : Int) ≠ 0 by omega)
  have h1 := Int.emod_lt_of_pos t (show (0 : Int) < (ns.length : Int) by omega)
  obtain ⟨j, hj⟩ := Int.eq_ofNat_of_zero_le h0
  rw [hj] at h1 ⊢
  have hl : j < ns.length := by omega
  refine ⟨ns[j], at_of rfl ?_⟩
  rw [List.getElem?_map, List.getElem?_eq_getElem hl]
  rfl
def spDraw : Sp := fun vs H Q _ => ∃ (f a : Addr) (ns : List Int) (c : Nat) (m : Int), vs = [.ref f, .int m] ∧ 0 < m ∧ m ≤ 1000 ∧ Fd f a ns H c ∧ c < 100000 ∧
  ∀ (r : Int) (H' : Hp), 0 ≤ r → r < m → Keep f H H' → Fd f a ns H' (c + 1) → Q (.int r) H'
section
variable {P : Program} {w : World} {K : PySem.W.Frag} {mg : Str → Option Value} {base : Heap}
theorem ok_draw {g : Addr} {fd : FuncData} (F : Fun K "_law_draw" "_law_draw" (topS 19) g fd) (mi : mg "int" = none) (ml : mg "len" = none) : FnOk P w K mg base CX0 1 g fd ["_law_feed", "_law_many"] spDraw := by
  refine F.ok scDraw (fun vs H Q E h => ?_) (fun cdv A outer s H vs Q E hr h => ?_)
  · obtain ⟨f, a, ns, c, m, rfl, _⟩ := h
    rfl
  · obtain ⟨f, a, ns, c, m, rfl, m0, m1, fd0, hc, q⟩ := h
    have hu := hu_of hr
    obtain ⟨kvs, t, hh, n, e1, four, t0, tn, nc⟩ := fd0.ex
    refine ⟨_, pss_cons (ps_set (i := 2) scDraw.nd rfl (.inl rfl) (pe_op op_add (pe_dget hu (pv 0) pe_str (fun _ _ => rfl)) pe_int))
      (pss_cons (ps_dput hu (pv 0) pe_str (pv 2) rfl)
      (pss_cons (ps_if (pt_cmpR op_gt (pe_dget hu (pv 0) pe_str (fun _ _ => rfl)) pe_int (nomark _))
        (pss_cons (ps_set (i := 3) scDraw.nd rfl (.inl rfl) (pe_op op_mod (pe_callTy call_int1 (by rfl) mi boot_int (pa_cons (pe_dget hu (pv 0) pe_str (fun _ _ => rfl)) pa_nil)) (pv 1)))
        (pss_cons (ps_dput hu (pv 0) pe_str (pe_op op_fdivN (pe_dget hu (pv 0) pe_str (fun _ _ => rfl)) (pv 1)) rfl)
        (pss_one (ps_ret (pv 3))))) pss_nil)
      (pss_cons (ps_par (i := 4) (j := 5) (by rfl) scDraw.nd rfl rfl (by decide) rfl rfl (pa_cons (pe_dget hu (pv 0) pe_str (fun _ _ => rfl)) (pa_cons (pe_dget hu (pv 0) pe_str (fun _ _ => rfl)) pa_nil)) (by rfl))
      (pss_cons (ps_dput hu (pv 0) pe_str (pe_op op_add (pv 5) pe_int) rfl)
      (pss_cons (ps_set (i := 6) scDraw.nd rfl (.inl rfl) (pe_ifExp (pt_cmpR (op_neD hr.units) (pv 4) (pe_lst pa_nil) (nomark _))
        (pe_ix ix_list (pv 4) (pe_op op_mod (pe_callTy call_int1 (by rfl) mi boot_int (pa_cons (pv 5) pa_nil)) (pe_callB call_len_seq (by rfl) ml PySem.boot_len (pa_cons (pv 4) pa_nil))) (fun _ _ => rfl)) pe_int))
      (pss_cons (ps_if (PW.pt (pw_and (pt_cmpR op_ge (pv 6) (pe_op op_pow pe_int pe_int) (nomark _)) (pw_and1 (pt_cmpR op_lt (pv 5) (pe_callB call_len_seq (by rfl) ml PySem.boot_len (pa_cons (pv 4) pa_nil)) (nomark _)))))
        (pss_cons (ps_dput hu (pv 0) pe_str (pe_op op_fdivN (pv 6) (pv 1)) rfl)
        (pss_one (ps_ret (pe_op op_mod (pe_callTy call_int1 (by rfl) mi boot_int (pa_cons (pv 6) pa_nil)) (pv 1))))) pss_nil)
      (pss_cons (ps_set (i := 7) scDraw.nd rfl (.inl rfl) (pe_op op_mod (pe_callTy call_int1 (by rfl) mi boot_int (pa_cons (pe_op op_pow
        (pe_op op_add (pe_op op_add (pe_op op_mod (pe_callTy call_int1 (by rfl) mi boot_int (pa_cons (pv 6) pa_nil)) pe_int) (pe_op op_mul pe_int (pv 2))) pe_int) pe_int) pa_nil)) pe_int))
      (pss_cons (ps_set (i := 7) scDraw.nd rfl (.inl rfl) (pe_op op_mod (pe_callTy call_int1 (by rfl) mi boot_int (pa_cons (pe_op op_pow
        (pe_op op_add (pe_op op_add (pv 7) (pe_op op_mul (pe_op op_mul pe_int (pv 2)) (pv 2))) pe_int) pe_int) pa_nil)) pe_int))
      (pss_one (ps_ret (pe_op op_mod (pe_callTy call_int1 (by rfl) mi boot_int (pa_cons (pe_op op_fdiv (pv 7) pe_int) pa_nil)) (pv 1)))))))))))), ?_⟩
    have n0 : 0 ≤ n := Int.le_trans t0 tn
    have dg : ∀ {H : Hp} {kvs : List (Key × V)} {k : Key} {v : V}, H f = some (.dK kvs) → valV kvs k = some v → DGet H f (kV k) (some v) := fun e z => by
      rw [← z]
      exact DGet.k e
    have four2 := four.put_count (n + 1)
    have fd2 : Fd f a ns (upd H f (.dK (putK kvs kCount (.int (n + 1))))) (c + 1) := (fd0.more (Nat.le_succ c)).put four2 t0 (by omega) (by omega)
    -- count
    refine ⟨_, rfl, f, .int n, rfl, dg (k := kCount) e1 four.count, n, 1, rfl, rfl, ?_⟩
    refine ⟨_, rfl, _, rfl, f, _, rfl, DPut.k (k := kCount) e1 (small' (Nat.le_trans four.few (by decide))), ?_⟩
    have k2 : Keep f H (upd H f (.dK (putK kvs kCount (.int (n + 1))))) := keep_upd
    have e2 : (upd H f (.dK (putK kvs kCount (.int (n + 1))))) f = some (.dK (putK kvs kCount (.int (n + 1)))) := upd_same
    generalize upd H f (.dK (putK kvs kCount (.int (n + 1)))) = H2 at fd2 e2 k2 ⊢
    generalize putK kvs kCount (.int (n + 1)) = kv2 at four2 e2
    have fw : 4 ≤ sizeLine := by decide
    have m3 : ∀ x : Int, 0 ≤ x % m ∧ x % m < m := fun x => ⟨Int.emod_nonneg _ (by omega), Int.emod_lt_of_pos _ m0⟩
    have cd : CDivN hh m := ⟨by omega, by omega⟩
    refine ⟨_, rfl, f, .int hh, rfl, dg (k := kHeld) e2 four2.held, hh, 0, rfl, rfl, _, rfl, ite2 (fun _ => ?_) (fun _ => ?_)⟩
    · -- a figure of what is held
      refine ⟨_, rfl, f, .int hh, rfl, dg (k := kHeld) e2 four2.held, .inl ⟨hh, rfl, _, rfl, hh, m, rfl, rfl, m0, ?_⟩⟩
      refine ⟨_, rfl, f, .int hh, rfl, dg (k := kHeld) e2 four2.held, _, rfl, hh, m, rfl, rfl, cd, ?_⟩
      refine ⟨_, rfl, f, _, rfl, DPut.k (k := kHeld) e2 (small' (Nat.le_trans four2.few (by decide))), ?_⟩
      exact ⟨_, rfl, q _ _ (m3 hh).1 (m3 hh).2 (k2.trans keep_upd) (fd2.put (four2.put_held _) t0 (by omega) (by omega))⟩
    · -- the next cell
      refine ⟨_, rfl, f, .ref a, rfl, dg (k := kCells) e2 four2.cells, _, rfl, f, .int t, rfl, dg (k := kAt) e2 four2.at_, _, _, rfl, ?_⟩
      have four3 := four2.put_at (t + 1)
      have fd3 := fd2.put four3 (by omega) (by omega) (by omega)
      have k3 := k2.trans (keep_upd (f := f) (H := H2) (o := .dK (putK kv2 kAt (.int (t + 1)))))
      have e3 : (upd H2 f (.dK (putK kv2 kAt (.int (t + 1))))) f = some (.dK (putK kv2 kAt (.int (t + 1)))) := upd_same
      refine ⟨_, rfl, t, 1, rfl, rfl, _, rfl, f, _, rfl, DPut.k (k := kAt) e2 (small' (Nat.le_trans four2.few (by decide))), ?_⟩
      generalize upd H2 f (.dK (putK kv2 kAt (.int (t + 1)))) = H3 at fd3 e3 k3 ⊢
      generalize putK kv2 kAt (.int (t + 1)) = kv3 at four3 e3
      have cl : SqL K H3 a (ns.map V.int) := .inl (.inl fd3.cl)
      refine ⟨.ref a, rfl, Nat.zero_le _, fun z nz => ⟨.list (ns.map PyData.int), .list [], .lst (.inl (.inl (by rw [upd_ne (fd3.free nz).2]; exact fd3.cl))) (dpAll_ints ns), .lst (.inl (.inl upd_same)) .nil, shaped_ints ns, rfl, _, rfl, ?_⟩⟩
      have k4 : Keep f H (upd H3 z (.lst [])) := k3.trans (keep_same (same_new nz))
      have fd4 : Fd f a ns (upd H3 z (.lst [])) (c + 1) := fd3.own (fd3.free nz).1 (fd3.free nz).2
      have e4 : (upd H3 z (.lst [])) f = some (.dK kv3) := by rw [upd_ne (fd3.free nz).1]; exact e3
      generalize upd H3 z (.lst []) = H4 at k4 fd4 e4 ⊢
      have cl4 : SqL K H4 a (ns.map V.int) := .inl (.inl fd4.cl)
      have s0 : 0 ≤ n + 1 := by omega
      have s1 : n + 1 ≤ 100001 := by omega
      have sq := sq_bound s0 s1
      rw [eqv_nil_ints]
      cases hns : ns.isEmpty
      case' false =>
        have pos : 0 < ns.length := by
          cases ns with
          | nil => cases hns
          | cons _ _ => exact Nat.succ_pos _
        obtain ⟨x, hx⟩ := at_mod (ns := ns) (t := t) t0 pos
        refine iteT ⟨.ref a, rfl, _, rfl, .inl ⟨t, rfl, .ref a, rfl, a, ns.map V.int, rfl, .inl cl4, t, _, rfl, rfl, (by rw [List.length_map]; omega), a, ns.map V.int, _, .int x, rfl, rfl, cl4, hx, ?_⟩⟩
      case' true =>
        refine iteF ?_
        show Ends.nx _ (List.set _ 6 (some (V.int 341))) H4
        generalize (341 : Int) = x
      all_goals
        have tail : ∀ (y : Int), 0 ≤ y → y < 2147483629 → (y + 7001 * (n + 1) * (n + 1) + 211).natAbs < 2 ^ 64 := fun y y0 y1 => by omega
        have head : (x % 1000000607 + 40009 * (n + 1) + 1013).natAbs < 2 ^ 64 := by
          have := Int.emod_nonneg x (show (1000000607 : Int) ≠ 0 by decide)
          have := Int.emod_lt_of_pos x (show (0 : Int) < 1000000607 by decide)
          omega
        have mids : ∀ u : Int, 0 ≤ u % 2147483629 ∧ u % 2147483629 < 2147483629 := fun u => ⟨Int.emod_nonneg _ (by decide), Int.emod_lt_of_pos _ (by decide)⟩
        refine ⟨_, rfl, 10, 18, rfl, rfl, ⟨by decide, by decide, by decide⟩, x, _, rfl, rfl, _, rfl, ite2 (fun _ => ⟨_, rfl, .ref a, rfl, a, _, rfl, .inl cl4, t, _, rfl, rfl, _, rfl, ite2 (fun _ => ?_) (fun _ => ?_)⟩) (fun _ => ?_)⟩
        · refine ⟨_, rfl, _, rfl, x, m, rfl, rfl, ⟨by omega, by omega⟩, _, rfl, f, _, rfl, DPut.k (k := kHeld) e4 (small' (Nat.le_trans four3.few (by decide))), ?_⟩
          exact ⟨_, rfl, .inl ⟨x, rfl, _, rfl, x, m, rfl, rfl, m0, q _ _ (m3 x).1 (m3 x).2 (k4.trans keep_upd) (fd4.put (four3.put_held _) (by omega) (by omega) (by omega))⟩⟩
        all_goals
          refine ⟨_, rfl, .inl ⟨x, rfl, x, _, rfl, rfl, (show (0 : Int) < 1000000607 by decide), _, rfl, _, n + 1, rfl, rfl, .inl ⟨by decide, by decide⟩, _, _, rfl, rfl, _, _, rfl, rfl, _, _, rfl, rfl, ⟨by decide, by decide, head⟩, .inl ⟨_, rfl, _, _, rfl, rfl, (show (0 : Int) < 2147483629 by decide), ?_⟩⟩⟩
          obtain ⟨y0, y1⟩ := mids ((x % 1000000607 + 40009 * (n + 1) + 1013) ^ (2 : Int).toNat)
          refine ⟨_, rfl, _, rfl, _, n + 1, rfl, rfl, .inl ⟨by decide, by decide⟩, _, rfl, _, n + 1, rfl, rfl, .inl ⟨by omega, by omega⟩, _, _, rfl, rfl, _, _, rfl, rfl, _, _, rfl, rfl, ⟨by decide, by decide, tail _ y0 y1⟩, .inl ⟨_, rfl, _, _, rfl, rfl, (show (0 : Int) < 2147483587 by decide), ?_⟩⟩
          exact ⟨_, rfl, _, _, rfl, rfl, ⟨by decide, by decide⟩, .inl ⟨_, rfl, _, rfl, _, m, rfl, rfl, m0, q _ _ (m3 _).1 (m3 _).2 k4 fd4⟩⟩
end
end Kn


namespace Kn
open PySem PySem.Spec PyProof.Rows L2
/-! ### what stays -/
def TS (H H' : Hp) : Prop := (∀ b xs, H b = some (.tup xs) → H' b = some (.tup xs)) ∧ ∀ b o xs, H b = some (.frz o (.tup xs)) → H' b = some (.frz o (.tup xs))
theorem TS.refl (H : Hp) : TS H H := ⟨fun _ _ h => h, fun _ _ _ h => h⟩
theorem TS.trans {H H1 H2 : Hp} (a : TS H H1) (b : TS H1 H2) : TS H H2 := ⟨fun c x h => b.1 c x (a.1 c x h), fun c o x h => b.2 c o x (a.2 c o x h)⟩
theorem ts_same {H H' : Hp} (s : Same H H') : TS H H' := ⟨fun b xs h => s b _ h, fun b o xs h => s b _ h⟩
theorem ts_keep {f : Addr} {H H' : Hp} {kvs : List (Key × V)} (e : H f = some (.dK kvs)) (k : Keep f H H') : TS H H' :=
  ⟨fun b xs h => k b _ (ne_of h e (by intro z; cases z)) h, fun b o xs h => k b _ (ne_of h e (by intro z; cases z)) h⟩
theorem ts_fd {f a : Addr} {ns : List Int} {H H' : Hp} {c : Nat} (d : Fd f a ns H c) (k : Keep f H H') : TS H H' := by
  obtain ⟨⟨kvs, t, x, n, h1, _⟩, _, _⟩ := d
  exact ts_keep h1 k
theorem ts_lst {D : Addr} {H : Hp} {acc : List V} {o : HO} (e : H D = some (.lst acc)) : TS H (upd H D o) :=
  ⟨fun b xs h => by rw [upd_ne (ne_of h e (by intro z; cases z))]; exact h, fun b o xs h => by rw [upd_ne (ne_of h e (by intro z; cases z))]; exact h⟩
theorem tupT {K : PySem.W.Frag} {H H' : Hp} {a : Addr} {xs : List V} (s : TS H H') (h : SqT K H a xs) : SqT K H' a xs := by
  rcases h with (h | ⟨o, h⟩) | h
  · exact .inl (.inl (s.1 _ _ h))
  · exact .inl (.inr ⟨o, s.2 _ _ _ h⟩)
  · exact .inr h
theorem EntAt.ts {K : PySem.W.Frag} {H H' : Hp} {v : V} {e : Ent} (s : TS H H') : EntAt K H v e → EntAt K H' v e := fun ⟨p, q, a, b, c⟩ => ⟨p, q, a, tupT s b, tupT s c⟩
theorem EntsAt.ts {K : PySem.W.Frag} {H H' : Hp} (s : TS H H') : ∀ {vs : List V} {es : List Ent}, EntsAt K H vs es → EntsAt K H' vs es
  | _, _, .nil => .nil
  | _, _, .cons a b => .cons (a.ts s) (EntsAt.ts s b)
theorem PgAt.ts {K : PySem.W.Frag} {H H' : Hp} {v : V} {g : Pg} (s : TS H H') : PgAt K H v g → PgAt K H' v g := fun ⟨p, q, vs, a, b, c, d⟩ => ⟨p, q, vs, a, tupT s b, tupT s c, d.ts s⟩
theorem fd_ne {f a p : Addr} {ns : List Int} {H : Hp} {c : Nat} {xs : List V} (d : Fd f a ns H c) (h : H p = some (.lst xs)) : p ≠ f := by
  obtain ⟨⟨kvs, t, x, n, h1, _⟩, _, _⟩ := d
  exact ne_of h h1 (by intro z; cases z)
theorem seqK {K : PySem.W.Frag} {f a p : Addr} {ns : List Int} {H H' : Hp} {c : Nat} {xs : List V} (d : Fd f a ns H c) (k : Keep f H H') (h : SqL K H p xs) : SqL K H' p xs := by
  obtain ⟨⟨kvs, t, x, n, h1, _⟩, _, _⟩ := d
  rcases h with (h | ⟨o, h⟩) | h
  · exact .inl (.inl (k _ _ (ne_of h h1 (by intro z; cases z)) h))
  · exact .inl (.inr ⟨o, k _ _ (ne_of h h1 (by intro z; cases z)) h⟩)
  · exact .inr h

abbrev nStart : List Str := ["_law_script"]
theorem scStart : FnScope nStart ["_law_script"] (defScope (topS 18)) := ⟨rfl, rfl, rfl, by decide +kernel, rfl, by decide +kernel, by decide +kernel⟩
abbrev nAny : List Str := ["_law_feed", "_law_some"]
theorem scAny : FnScope nAny ["_law_feed", "_law_some"] (defScope (topS 20)) := ⟨rfl, rfl, rfl, by decide +kernel, rfl, by decide +kernel, by decide +kernel⟩
abbrev nLab : List Str := ["_law_feed", "_law_many", "_law_pool", "_law_first", "_law_stride", "_law_k"]
theorem scLab : FnScope nLab ["_law_feed", "_law_many"] (defScope (topS 21)) := ⟨rfl, rfl, rfl, by decide +kernel, rfl, by decide +kernel, by decide +kernel⟩
def spStart (K : PySem.W.Frag) : Sp := fun vs H Q _ => ∃ (s : Addr) (ns : List Int), vs = [.ref s] ∧ SqL K H s (ns.map V.int) ∧ ns.length ≤ 63 ∧
  ∀ (f a : Addr) (ms : List Int) (H' : Hp), H f = none → Same H H' → Fd f a ms H' 0 → Q (.ref f) H'
def spAny (K : PySem.W.Frag) : Sp := fun vs H Q _ => ∃ (f a p : Addr) (ns : List Int) (c : Nat) (xs : List V), vs = [.ref f, .ref p] ∧ Fd f a ns H c ∧ c < 100000 ∧ SqL K H p xs ∧ 0 < xs.length ∧ xs.length ≤ 1000 ∧
  ∀ (x : V) (H' : Hp), x ∈ xs → Keep f H H' → Fd f a ns H' (c + 1) → Q x H'
def pool1 : List Str := ["a", "b", "c", "d", "e", "f", "g"]
def pool2 : List Str := ["ab", "a", "abc", "b", "ba", "z", "abcdefgh"]
def pool3 : List Str := ["kind", "asker", "has", "not", "store", "on", "guard"]
def pool4 : List Str := ["m", "zoo", "keeper", "s", "st", "zz", "note"]
def names : List Str := pool1 ++ pool2 ++ pool3 ++ pool4
theorem names_fit : ∀ y ∈ names, Fit 8 y := by
  have h : ∀ y ∈ names, y.length ≤ 8 ∧ y.cps.toList.all (fun c => decide (c < 16 ^ 8)) = true := by decide +kernel
  intro y hy
  obtain ⟨h1, h2⟩ := h y hy
  exact ⟨h1, fun c hc => of_decide_eq_true (List.all_eq_true.mp h2 c hc)⟩
/-! ### the order of names -/
def Lt (a b : Str) : Prop := ltCps a.cps.toList b.cps.toList = true
abbrev Asc (ys : List Str) : Prop := ys.Pairwise Lt
theorem lt_trans {a b c : Str} (ha : a ∈ names) (hb : b ∈ names) (hc : c ∈ names) (h : Lt a b) (k : Lt b c) : Lt a c := by
  have all : (names.all fun a => names.all fun b => !ltCps a.cps.toList b.cps.toList || names.all fun c => !ltCps b.cps.toList c.cps.toList || ltCps a.cps.toList c.cps.toList) = true := by decide +kernel
  have q := List.all_eq_true.mp (List.all_eq_true.mp all a ha) b hb
  rw [h, Bool.not_true, Bool.false_or] at q
  have q := List.all_eq_true.mp q c hc
  rw [k, Bool.not_true, Bool.false_or] at q
  exact q
theorem lt_total {a b : Str} (ha : a ∈ names) (hb : b ∈ names) (ne : a ≠ b) (h : ltCps b.cps.toList a.cps.toList = false) : Lt a b := by
  have all : (names.all fun a => names.all fun b => decide (a = b) || ltCps a.cps.toList b.cps.toList || ltCps b.cps.toList a.cps.toList) = true := by decide +kernel
  have q := List.all_eq_true.mp (List.all_eq_true.mp all a ha) b hb
  rw [decide_eq_false ne, h, Bool.false_or, Bool.or_false] at q
  exact q
theorem asc_rising : ∀ (r : List Str) (p : Str), risingS p r = true → (p :: r).Nodup → (∀ y ∈ p :: r, y ∈ names) → (p :: r).Pairwise Lt
  | [], _, _, _, _ => List.pairwise_singleton _ _
  | x :: r, p, h, nd, hn => by
    have h : (!ltCps x.cps.toList p.cps.toList && risingS x r) = true := h
    obtain ⟨h1, h2⟩ := Bool.and_eq_true_iff.mp h
    have nd2 := (List.nodup_cons.mp nd).2
    have npx : p ≠ x := fun z => (List.nodup_cons.mp nd).1 (z ▸ List.mem_cons_self ..)
    have hp := hn p (List.mem_cons_self ..)
    have hx := hn x (List.mem_cons_of_mem _ (List.mem_cons_self ..))
    have lpx : Lt p x := lt_total hp hx npx (by simpa using h1)
    have ih := asc_rising r x h2 nd2 (fun y hy => hn y (List.mem_cons_of_mem _ hy))
    refine List.pairwise_cons.mpr ⟨fun y hy => ?_, ih⟩
    rcases List.mem_cons.mp hy with rfl | hy
    · exact lpx
    · exact lt_trans hp hx (hn y (List.mem_cons_of_mem _ (List.mem_cons_of_mem _ hy))) lpx ((List.pairwise_cons.mp ih).1 y hy)
theorem asc_sorted {ys : List Str} (h : sortedS ys = true) (nd : ys.Nodup) (hn : ∀ y ∈ ys, y ∈ names) : Asc ys := by
  cases ys with
  | nil => exact List.Pairwise.nil
  | cons p r => exact asc_rising r p h nd hn
def pick (pool : List Str) (r u k : Nat) : Str := pool.getD ((r + k * (1 + u)) % 7) Str.empty
theorem pick_nodup {pool : List Str} (hp : pool ∈ [pool1, pool2, pool3, pool4]) {r u m : Nat} (hr : r < 7) (hu : u < 6) (hm : m ≤ 7) : ((List.range m).map (pick pool r u)).Nodup := by
  have all : ([pool1, pool2, pool3, pool4].all fun p => (List.range 7).all fun r => (List.range 6).all fun u => decide ((List.range 7).map (pick p r u)).Nodup) = true := by decide +kernel
  have q := of_decide_eq_true (List.all_eq_true.mp (List.all_eq_true.mp (List.all_eq_true.mp all pool hp) r (List.mem_range.mpr hr)) u (List.mem_range.mpr hu))
  refine List.Nodup.sublist (List.Sublist.map _ ?_) q
  have e : List.range m = (List.range 7).take m := by rw [List.take_range, Nat.min_eq_left hm]
  rw [e]
  exact List.take_sublist _ _
theorem pick_at {pool : List Str} (hl : pool.length = 7) {r u i j : Nat} (hj : ((r : Int) + (0 + (i : Int)) * (1 + (u : Int))) % 7 = (j : Int)) (h : j < pool.length) : pool[j] = pick pool r u i := by
  have e : (r : Int) + (0 + (i : Int)) * (1 + (u : Int)) = ((r + i * (1 + u) : Nat) : Int) := by
    rw [Int.natCast_add, Int.natCast_mul, Int.natCast_add, Int.zero_add]
    rfl
  rw [e] at hj
  have z : (r + i * (1 + u)) % 7 = j := by omega
  unfold pick
  rw [z, List.getD_eq_getElem?_getD, List.getElem?_eq_getElem h]
  rfl
def spLab : Sp := fun vs H Q _ => ∃ (f a : Addr) (ns : List Int) (c : Nat) (m : Nat), vs = [.ref f, .int m] ∧ m ≤ 7 ∧ Fd f a ns H c ∧ c < 90000 ∧
  ∀ (ys : List Str) (q : Addr) (H' : Hp), H q = none → H' q = some (.lst (ys.map V.str)) → ys.length = m → (∀ y ∈ ys, y ∈ names) → Asc ys → Keep f H H' → Fd f a ns H' (c + 3) → Q (.ref q) H'
section
variable {P : Program} {w : World} {K : PySem.W.Frag} {mg : Str → Option Value} {base : Heap}
theorem ok_start {g : Addr} {fd : FuncData} (F : Fun K "_law_start" "_law_start" (topS 18) g fd) : FnOk P w K mg base CX0 1 g fd ["_law_script"] (spStart K) := by
  refine F.ok scStart (fun vs H Q E h => ?_) (fun cdv A outer s H vs Q E hr h => ?_)
  · obtain ⟨s, ns, rfl, _⟩ := h
    rfl
  · obtain ⟨s, ns, rfl, hS, hl, q⟩ := h
    refine ⟨_, pss_one (ps_ret (pe_disp (pps_cons pe_str (pe_slice sl_list (pv 0) po_none (po_some pe_int)) (pps_cons pe_str pe_int (pps_cons pe_str pe_int (pps_cons pe_str pe_int pps_nil)))) (by rfl) (by rfl) (fun z => by cases z) (by decide))), ?_⟩
    intro f nf
    refine ⟨.ref s, rfl, 63, rfl, s, _, rfl, (same_new nf).seq hS, fun a na => ?_⟩
    have nfa : f ≠ a := ne_of_none (upd_same (H := H) (a := f) (o := .dK [])) na
    have na0 : H a = none := (same_new nf).free na
    refine ⟨by rw [upd_ne nfa]; exact upd_same, [(kCells, .ref a), (kAt, .int 0), (kHeld, .int 0), (kCount, .int 0)], rfl, (show 4 ≤ 15 by decide), ?_⟩
    refine q f a ((ns.drop (HT.sIx (ns.map V.int).length 0 none)).take (HT.sIx (ns.map V.int).length (ns.map V.int).length (some 63) - HT.sIx (ns.map V.int).length 0 none)) _ nf ?_ ⟨⟨_, 0, 0, 0, upd_same, four_new a, by decide, by decide, by decide⟩, ?_, ?_⟩
    · exact putS (putS (same_new nf) na0) nf
    · rw [upd_ne nfa.symm, upd_same]
      unfold cutV
      rw [List.map_take, List.map_drop]
    · rw [List.length_take, List.length_drop]
      omega
theorem ok_any {g gD : Addr} {fd fdD : FuncData} (F : Fun K "_law_any" "_law_any" (topS 20) g fd) (FD : Fun K "_law_draw" "_law_draw" (topS 19) gD fdD) (bD : Binds K fdD ["_law_feed", "_law_many"] []) (mD : mg "_law_draw" = some (.ref gD)) (mi : mg "int" = none) (ml : mg "len" = none) :
    FnOk P w K mg base CX0 2 g fd ["_law_feed", "_law_some"] (spAny K) := by
  have GD : FnOk P w K mg base CX0 1 gD fdD ["_law_feed", "_law_many"] spDraw := ok_draw FD mi ml
  refine F.ok scAny (fun vs H Q E h => ?_) (fun cdv A outer s H vs Q E hr h => ?_)
  · obtain ⟨f, a, p, ns, c, xs, rfl, _⟩ := h
    rfl
  · obtain ⟨f, a, p, ns, c, xs, rfl, fd0, hc, hL, l0, l1, q⟩ := h
    refine ⟨_, pss_one (ps_ret (pe_ix ix_list (pv 1) (pe_call GD hr (by rfl) mD FD.kp bD .nil pass0 (pa_cons (pv 0) (pa_cons (pe_callB call_len_seq (by rfl) ml PySem.boot_len (pa_cons (pv 1) pa_nil)) pa_nil))) (fun _ _ => rfl))), ?_⟩
    refine ⟨.ref p, rfl, .ref f, rfl, .ref p, rfl, p, xs, rfl, .inl hL, f, a, ns, c, _, rfl, by omega, by omega, fd0, hc, fun r H' r0 r1 k fd1 => ?_⟩
    obtain ⟨j, rfl⟩ := Int.eq_ofNat_of_zero_le r0
    have hj : j < xs.length := by omega
    exact ⟨p, xs, _, xs[j], rfl, rfl, seqK fd0 k hL, at_of rfl (List.getElem?_eq_getElem hj), q _ H' (List.getElem_mem hj) k fd1⟩
theorem ok_lab {g gD gA : Addr} {fd fdD fdA : FuncData} (F : Fun K "_law_labels" "_law_labels" (topS 21) g fd) (FA : Fun K "_law_any" "_law_any" (topS 20) gA fdA) (bA : Binds K fdA ["_law_feed", "_law_some"] []) (mA : mg "_law_any" = some (.ref gA))
    (FD : Fun K "_law_draw" "_law_draw" (topS 19) gD fdD) (bD : Binds K fdD ["_law_feed", "_law_many"] []) (mD : mg "_law_draw" = some (.ref gD)) (mi : mg "int" = none) (ml : mg "len" = none) (mr : mg "range" = none) (mo : mg "sorted" = none) :
    FnOk P w K mg base CX0 3 g fd ["_law_feed", "_law_many"] spLab := by
  have GD : FnOk P w K mg base CX0 1 gD fdD ["_law_feed", "_law_many"] spDraw := ok_draw FD mi ml
  have GA : FnOk P w K mg base CX0 2 gA fdA ["_law_feed", "_law_some"] (spAny K) := ok_any FA FD bD mD mi ml
  refine F.ok scLab (fun vs H Q E h => ?_) (fun cdv A outer s H vs Q E hr h => ?_)
  · obtain ⟨f, a, ns, c, m, rfl, _⟩ := h
    rfl
  · obtain ⟨f, a, ns, c, m, rfl, hm, fd0, hc, q⟩ := h
    have hr1 : Room 1 _ := hr.mono (by decide)
    refine ⟨_, pss_cons (ps_set (i := 2) scLab.nd rfl (.inr rfl) (pe_call GA hr (by rfl) mA FA.kp bA .nil pass0 (pa_cons (pv 0) (pa_cons
        (pe_lst (pa_cons (pe_lst (pa_cons pe_str (pa_cons pe_str (pa_cons pe_str (pa_cons pe_str (pa_cons pe_str (pa_cons pe_str (pa_cons pe_str pa_nil))))))))
          (pa_cons (pe_lst (pa_cons pe_str (pa_cons pe_str (pa_cons pe_str (pa_cons pe_str (pa_cons pe_str (pa_cons pe_str (pa_cons pe_str pa_nil))))))))
          (pa_cons (pe_lst (pa_cons pe_str (pa_cons pe_str (pa_cons pe_str (pa_cons pe_str (pa_cons pe_str (pa_cons pe_str (pa_cons pe_str pa_nil))))))))
          (pa_cons (pe_lst (pa_cons pe_str (pa_cons pe_str (pa_cons pe_str (pa_cons pe_str (pa_cons pe_str (pa_cons pe_str (pa_cons pe_str pa_nil)))))))) pa_nil))))) pa_nil))))
      (pss_cons (ps_asg (pe_tup (pa_cons (pe_call GD hr1 (by rfl) mD FD.kp bD .nil pass0 (pa_cons (pv 0) (pa_cons pe_int pa_nil))) (pa_cons (pe_op op_add pe_int (pe_call GD hr1 (by rfl) mD FD.kp bD .nil pass0 (pa_cons (pv 0) (pa_cons pe_int pa_nil)))) pa_nil)))
        (pg_tup (by rfl) (pgs_cons (pg_name (i := 3) scLab.nd rfl (.inr rfl)) (pgs_cons (pg_name (i := 4) scLab.nd rfl (.inr rfl)) pgs_nil))))
      (pss_one (ps_ret (pe_callB cr_sortedS (by rfl) mo (by decide +kernel) (pa_cons (pe_lc (own := [("_law_k", 5)]) (g := gName 5) (by rfl) scLab.nd (pi_range1 (by rfl) mr (pa_cons (pv 1) pa_nil)) (blkOk_by (own := [("_law_k", 5)]) (N := nLab) (sc := defScope (topS 21)) (by decide +kernel))
        (fun _ _ _ _ _ => pg_name (i := 5) scLab.nd rfl (Or.inl rfl)) (fun _ _ _ _ _ => pts_nil) (fun _ _ _ _ _ => pe_ix (r := rIxL K) ix_list (pv 2) (pe_op op_mod (pe_callTy call_int1 (by rfl) mi boot_int (pa_cons (pe_op op_add (pv 3) (pe_op op_mul (pv 5) (pv 4))) pa_nil)) pe_int) (fun _ _ => rfl))) pa_nil))))), ?_⟩
    -- the pools
    refine ⟨.ref f, rfl, (show 7 ≤ sizeLine by decide), fun p1 n1 => ⟨(show 7 ≤ sizeLine by decide), fun p2 n2 => ⟨(show 7 ≤ sizeLine by decide), fun p3 n3 => ⟨(show 7 ≤ sizeLine by decide), fun p4 n4 => ⟨(show 4 ≤ sizeLine by decide), fun p0 n0 => ?_⟩⟩⟩⟩⟩
    have s1 : Same H (upd H p1 (.lst (pool1.map V.str))) := same_new n1
    have s2 : Same _ (upd (upd H p1 (.lst (pool1.map V.str))) p2 (.lst (pool2.map V.str))) := same_new n2
    have s3 : Same _ (upd (upd (upd H p1 (.lst (pool1.map V.str))) p2 (.lst (pool2.map V.str))) p3 (.lst (pool3.map V.str))) := same_new n3
    have s4 : Same _ (upd (upd (upd (upd H p1 (.lst (pool1.map V.str))) p2 (.lst (pool2.map V.str))) p3 (.lst (pool3.map V.str))) p4 (.lst (pool4.map V.str))) := same_new n4
    have s0 : Same _ (upd (upd (upd (upd (upd H p1 (.lst (pool1.map V.str))) p2 (.lst (pool2.map V.str))) p3 (.lst (pool3.map V.str))) p4 (.lst (pool4.map V.str))) p0 (.lst [.ref p1, .ref p2, .ref p3, .ref p4])) := same_new n0
    have e1 := s0 _ _ (s4 _ _ (s3 _ _ (s2 _ _ (upd_same (H := H) (a := p1) (o := .lst (pool1.map V.str))))))
    have e2 := s0 _ _ (s4 _ _ (s3 _ _ (upd_same (a := p2) (o := .lst (pool2.map V.str)))))
    have e3 := s0 _ _ (s4 _ _ (upd_same (a := p3) (o := .lst (pool3.map V.str))))
    have e4 := s0 _ _ (upd_same (a := p4) (o := .lst (pool4.map V.str)))
    have sm := (((s1.trans s2).trans s3).trans s4).trans s0
    have fd5 := fd0.same sm
    refine ⟨f, a, p0, ns, c, [.ref p1, .ref p2, .ref p3, .ref p4], rfl, fd5, by omega, .inl (.inl upd_same), (show 0 < 4 by decide), (show 4 ≤ 1000 by decide), fun x H6 hx k6 fd6 => ?_⟩
    obtain ⟨pp, pool, rfl, ep, lp, hp, hpool⟩ : ∃ (pp : Addr) (pool : List Str), x = .ref pp ∧ H6 pp = some (.lst (pool.map V.str)) ∧ pool.length = 7 ∧ (∀ y ∈ pool, y ∈ names) ∧ pool ∈ [pool1, pool2, pool3, pool4] := by
      simp only [List.mem_cons, List.not_mem_nil, or_false] at hx
      rcases hx with rfl | rfl | rfl | rfl
      · exact ⟨p1, pool1, rfl, k6 _ _ (fd_ne fd5 e1) e1, rfl, fun y hy => List.mem_append_left _ (List.mem_append_left _ (List.mem_append_left _ hy)), by simp⟩
      · exact ⟨p2, pool2, rfl, k6 _ _ (fd_ne fd5 e2) e2, rfl, fun y hy => List.mem_append_left _ (List.mem_append_left _ (List.mem_append_right _ hy)), by simp⟩
      · exact ⟨p3, pool3, rfl, k6 _ _ (fd_ne fd5 e3) e3, rfl, fun y hy => List.mem_append_left _ (List.mem_append_right _ hy), by simp⟩
      · exact ⟨p4, pool4, rfl, k6 _ _ (fd_ne fd5 e4) e4, rfl, fun y hy => List.mem_append_right _ hy, by simp⟩
    have kk6 : Keep f H H6 := (keep_same sm).trans k6
    clear e1 e2 e3 e4 s1 s2 s3 s4 s0 sm
    -- the two draws
    refine ⟨.ref f, rfl, f, a, ns, c + 1, 7, rfl, by decide, by decide, fd6, by omega, fun r H7 r0 r1 k7 fd7 => ?_⟩
    refine ⟨.ref f, rfl, f, a, ns, c + 2, 6, rfl, by decide, by decide, fd7, by omega, fun u H8 u0 u1 k8 fd8 => ⟨1, u, rfl, rfl, (show 2 ≤ sizeLine by decide), fun t nt => ?_⟩⟩
    refine ⟨t, _, rfl, .inl (.inl upd_same), rfl, _, _, rfl, _, _, rfl, rfl, ?_⟩
    have k9 : Keep f H (upd H8 t (.tup [V.int r, V.int (1 + u)])) := ((kk6.trans k7).trans k8).trans (keep_same (same_new nt))
    have fd9 := fd8.same (same_new (o := .tup [V.int r, V.int (1 + u)]) nt)
    have ep8 := k8 _ _ (fd_ne fd6 ep) (k7 _ _ (fd_ne fd6 ep) ep)
    have ep9 : (upd H8 t (.tup [V.int r, V.int (1 + u)])) pp = some (.lst (pool.map V.str)) := same_new nt _ _ ep8
    generalize upd H8 t (.tup [V.int r, V.int (1 + u)]) = H9 at k9 fd9 ep9 ⊢
    obtain ⟨rn, hrn⟩ := Int.eq_ofNat_of_zero_le r0
    obtain ⟨un, hun⟩ := Int.eq_ofNat_of_zero_le u0
    -- the labels
    refine ⟨_, rfl, m, rfl, by omega, by omega, fun D nD => ?_⟩
    refine lc_range (lo := 0) (n := (m : Int).toNat) (fun i G => Same H9 G ∧ ∃ ys : List Str, G D = some (.lst (ys.map V.str)) ∧ ys.length = i ∧ (∀ y ∈ ys, y ∈ names) ∧ ys = (List.range i).map (pick pool rn un)) ⟨same_new nD, [], upd_same, rfl, (fun y hy => by cases hy), rfl⟩ ?_ ?_
    · rintro i G hi ⟨sG, ys, hD, hl, hy, hys⟩
      rw [Int.toNat_natCast] at hi
      refine ⟨rfl, ?_⟩
      simp only [tYes, ↓reduceIte]
      have z0 := Int.emod_nonneg (r + (0 + (i : Int)) * (1 + u)) (show (7 : Int) ≠ 0 by decide)
      have z1 := Int.emod_lt_of_pos (r + (0 + (i : Int)) * (1 + u)) (show (0 : Int) < 7 by decide)
      obtain ⟨j, hj⟩ := Int.eq_ofNat_of_zero_le z0
      have hjl : j < pool.length := by omega
      refine ⟨_, rfl, _, rfl, _, rfl, _, rfl, _, _, rfl, rfl, .inl ⟨by omega, by omega⟩, _, _, rfl, rfl, .inl ⟨_, rfl, _, _, rfl, rfl, (show (0 : Int) < 7 by decide), pp, pool.map V.str, _, .str pool[j], rfl, rfl, .inl (.inl (sG _ _ ep9)), at_of hj ?_, ys.map V.str, hD, ?_, ?_, ys ++ [pool[j]], ?_, ?_, ?_, ?_⟩⟩
      · rw [List.getElem?_map, List.getElem?_eq_getElem hjl]
        rfl
      · rw [List.length_map]
        exact small' (by omega)
      · exact putS sG nD
      · rw [upd_same, List.map_append]
        rfl
      · rw [List.length_append, hl]
        rfl
      · intro y hy'
        rcases List.mem_append.mp hy' with h | h
        · exact hy y h
        · rw [List.mem_singleton.mp h]
          exact hp _ (List.getElem_mem hjl)
      · rw [List.range_succ, List.map_append, ← hys, List.map_singleton]
        rw [hrn, hun] at hj
        rw [pick_at lp hj hjl]
    · rintro G ⟨sG, ys, hD, hl, hy, hys⟩
      rw [Int.toNat_natCast] at hl hys
      have ndy : ys.Nodup := by
        rw [hys]
        exact pick_nodup hpool (by omega) (by omega) hm
      refine ⟨D, ys, rfl, .inl (.inl hD), by omega, fun zs p perm srt np => ?_⟩
      have sp := putS (o := .lst (zs.map V.str)) sG (sG.free np)
      refine q zs p _ ?_ upd_same (by rw [perm.length_eq, hl]) (fun y hz => hy y (perm.mem_iff.mp hz)) (asc_sorted srt (perm.nodup_iff.mpr ndy) (fun y hz => hy y (perm.mem_iff.mp hz))) (k9.trans (keep_same sp)) ((fd9.same sp).more (by omega))
      cases hpH : H p with
      | none => rfl
      | some o =>
        by_cases hpf : p = f
        · subst hpf
          exact absurd rfl ((fd9.same sG).free np).1
        · have := sG _ _ (k9 _ _ hpf hpH)
          rw [np] at this
          cases this
end
end Kn


namespace Kn
open PySem PySem.Spec PyProof.Rows L2
abbrev nPg : List Str := ["_law_feed", "_law_most", "_law_labels_here", "_law_asks", "_law_entries", "_law_label", "_law_holds", "_law_row", "_law_mate"]
theorem scPg : FnScope nPg ["_law_feed", "_law_most"] (defScope (topS 22)) := ⟨rfl, rfl, rfl, by decide +kernel, rfl, by decide +kernel, by decide +kernel⟩
def fees9 : List Int := [1, 1, 1, 2, 3, 9, 10, 12, 10 ^ (59 : Int).toNat]
def feesAll : List Int := [1, 2, 3, 9, 10, 12, 99, 100, 12345678901, 10 ^ (59 : Int).toNat, 10 ^ (60 : Int).toNat - 1]
theorem fees9_all : ∀ i ∈ fees9, i ∈ feesAll := by decide +kernel
theorem feesAll_ok : ∀ i ∈ feesAll, i.natAbs < 10 ^ 60 := by decide +kernel
def Ent.nice (e : Ent) : Prop := e.name ∈ names ∧ e.fee ∈ feesAll ∧ (∀ s ∈ e.row, s ∈ names) ∧ Asc e.row
def spPg (K : PySem.W.Frag) : Sp := fun vs H Q _ => ∃ (f a : Addr) (ns : List Int) (c : Nat) (m : Int), vs = [.ref f, .int m] ∧ 0 < m ∧ m ≤ 5 ∧ Fd f a ns H c ∧ c < 80000 ∧
  ∀ (v : V) (g : Pg) (H' : Hp), PgAt K H' v g → g.ok → (∀ e ∈ g.es, e.nice) → Asc (g.es.map (·.name)) → (∀ e ∈ g.es, (e.has = true → e.name ≠ g.asks) ∧ e.row.Sublist (g.es.map (·.name))) → g.asks ∈ names → 0 < g.es.length → g.es.length ≤ 5 → Keep f H H' → Fd f a ns H' (c + 60) → Q v H'
theorem ne_free {f a p : Addr} {ns : List Int} {H G : Hp} {c : Nat} (d : Fd f a ns G c) (k : Keep f H G) (n : G p = none) : H p = none := by
  cases e : H p with
  | none => rfl
  | some o =>
    by_cases hpf : p = f
    · subst hpf
      exact absurd rfl (d.free n).1
    · have := k _ _ hpf e
      rw [n] at this
      cases this
theorem fees9_ok : ∀ i ∈ fees9, i.natAbs < 10 ^ 60 := by decide +kernel
section
variable {P : Program} {w : World} {K : PySem.W.Frag} {mg : Str → Option Value} {base : Heap}
theorem ok_pg {g gD gA gL : Addr} {fd fdD fdA fdL : FuncData} (F : Fun K "_law_page" "_law_page" (topS 22) g fd)
    (FL : Fun K "_law_labels" "_law_labels" (topS 21) gL fdL) (bL : Binds K fdL ["_law_feed", "_law_many"] []) (mL : mg "_law_labels" = some (.ref gL))
    (FA : Fun K "_law_any" "_law_any" (topS 20) gA fdA) (bA : Binds K fdA ["_law_feed", "_law_some"] []) (mA : mg "_law_any" = some (.ref gA))
    (FD : Fun K "_law_draw" "_law_draw" (topS 19) gD fdD) (bD : Binds K fdD ["_law_feed", "_law_many"] []) (mD : mg "_law_draw" = some (.ref gD)) (mi : mg "int" = none) (ml : mg "len" = none) (mr : mg "range" = none) (mo : mg "sorted" = none) (mt : mg "tuple" = none) :
    FnOk P w K mg base CX0 4 g fd ["_law_feed", "_law_most"] (spPg K) := by
  have GD : FnOk P w K mg base CX0 1 gD fdD ["_law_feed", "_law_many"] spDraw := ok_draw FD mi ml
  have GA : FnOk P w K mg base CX0 2 gA fdA ["_law_feed", "_law_some"] (spAny K) := ok_any FA FD bD mD mi ml
  have GL : FnOk P w K mg base CX0 3 gL fdL ["_law_feed", "_law_many"] spLab := ok_lab FL FA bA mA FD bD mD mi ml mr mo
  refine F.ok scPg (fun vs H Q E h => ?_) (fun cdv A outer s H vs Q E hr h => ?_)
  · obtain ⟨f, a, ns, c, m, rfl, _⟩ := h
    rfl
  · obtain ⟨f, a, ns, c, m, rfl, m0, m1, fd0, hc, q⟩ := h
    have hr1 : Room 1 _ := hr.mono (by decide)
    have hr2 : Room 2 _ := hr.mono (by decide)
    refine ⟨_, pss_cons (ps_set (i := 2) scPg.nd rfl (.inl rfl) (pe_call GL hr (by rfl) mL FL.kp bL .nil pass0 (pa_cons (pv 0) (pa_cons (pe_op op_add pe_int (pe_call GD hr1 (by rfl) mD FD.kp bD .nil pass0 (pa_cons (pv 0) (pa_cons (pv 1) pa_nil)))) pa_nil))))
      (pss_cons (ps_par (i := 3) (j := 4) (by rfl) scPg.nd rfl rfl (by decide) rfl rfl (pa_cons (pe_call GA hr2 (by rfl) mA FA.kp bA .nil pass0 (pa_cons (pv 0) (pa_cons (pv 2) pa_nil))) (pa_cons (pe_lst pa_nil) pa_nil)) (by rfl))
      (pss_cons (ps_for PassesOwn.never rfl (pi_list (pv 2)) (pg_name (i := 5) scPg.nd rfl (.inl rfl))
        (pss_cons (ps_set (i := 6) scPg.nd rfl (.inl rfl) (pe_and (pe_cmpR op_eq (pe_call GD hr1 (by rfl) mD FD.kp bD .nil pass0 (pa_cons (pv 0) (pa_cons pe_int pa_nil))) pe_int (nomark _)) (pe_one (pe_cmpR op_ne (pv 5) (pv 3) (nomark _)))))
        (pss_cons (ps_setLc (i := 7) (own := [("_law_mate", 8)]) (g := gName 8) (by rfl) scPg.nd rfl rfl (sw_true rfl rfl rfl (by decide +kernel)) (pi_list (pv 2)) (blkOk_by (own := [("_law_mate", 8)]) (N := nPg) (sc := defScope (topS 22)) (by decide +kernel))
          (fun _ _ _ _ _ => pg_name (i := 8) scPg.nd rfl (Or.inl rfl)) (fun _ _ _ _ _ => pts_one (pt_cmpR op_eq (pe_call GD hr1 (by rfl) mD FD.kp bD .nil pass0 (pa_cons (pv 0) (pa_cons pe_int pa_nil))) pe_int (nomark _))) (fun _ _ _ _ _ => pv 8))
        (pss_one (ps_expr (pe_bm PySem.F.plainAttrs_list PySem.F.slot_list_append PySem.F.type_list_append mt_append (pv 4) (pa_cons (pe_tup (pa_cons (pv 5)
          (pa_cons (pe_call GA hr2 (by rfl) mA FA.kp bA .nil pass0 (pa_cons (pv 0) (pa_cons (pe_lst (pa_cons pe_int (pa_cons pe_int (pa_cons pe_int (pa_cons pe_int (pa_cons pe_int (pa_cons pe_int (pa_cons pe_int (pa_cons pe_int (pa_cons (pe_op op_pow pe_int pe_int) pa_nil)))))))))) pa_nil)))
          (pa_cons (pv 6) (pa_cons (pe_callTy call_tuple_of (by rfl) mt boot_tuple (pa_cons (pv 7) pa_nil)) pa_nil))))) pa_nil)))))))
      (pss_one (ps_ret (pe_tup (pa_cons (pe_callTy call_tuple_of (by rfl) mt boot_tuple (pa_cons (pv 4) pa_nil)) (pa_cons (pv 3) pa_nil))))))), ?_⟩
    -- the labels
    refine ⟨.ref f, rfl, .ref f, rfl, _, rfl, f, a, ns, c, m, rfl, m0, by omega, fd0, by omega, fun r H1 r0 r1 k1 fd1 => ⟨1, r, rfl, rfl, ?_⟩⟩
    obtain ⟨j, rfl⟩ := Int.eq_ofNat_of_zero_le r0
    refine ⟨f, a, ns, c + 1, 1 + j, ?_, by omega, fd1, by omega, fun ys L H2 nL eL lL hL ascL k2 fd2 => ?_⟩
    · show [V.ref f, V.int (1 + (j : Int))] = [V.ref f, V.int ((1 + j : Nat) : Int)]
      rw [Int.natCast_add]
      rfl
    -- who asks
    refine ⟨.ref f, rfl, .ref L, rfl, f, a, L, ns, c + 4, ys.map V.str, rfl, fd2, by omega, .inl (.inl eL), by rw [List.length_map]; omega, by rw [List.length_map]; omega, fun x H3 hx k3 fd3 => ⟨Nat.zero_le _, fun En nEn => ?_⟩⟩
    obtain ⟨asks, hasks, rfl⟩ := List.mem_map.mp hx
    refine ⟨_, _, rfl, ?_⟩
    have kA : Keep f H (upd H3 En (.lst [])) := ((k1.trans k2).trans k3).trans (keep_same (same_new nEn))
    have fdA : Fd f a ns (upd H3 En (.lst [])) (c + 5) := fd3.same (same_new nEn)
    have eL3 := k3 _ _ (fd_ne fd2 eL) eL
    have eLA : (upd H3 En (.lst [])) L = some (.lst (ys.map V.str)) := same_new nEn _ _ eL3
    have nEL : En ≠ L := (ne_of_none eL3 nEn).symm
    have eEn : (upd H3 En (.lst [])) En = some (.lst []) := upd_same
    have nfa := fd3.free nEn
    have n0E : H En = none := ne_free fd3 ((k1.trans k2).trans k3) nEn
    generalize upd H3 En (.lst []) = H4 at kA fdA eLA eEn ⊢
    -- the loop
    refine ⟨_, rfl, L, rfl, ⟨_, .inl (.inl eLA)⟩, for_list (K := K) (a := L) (xs := ys.map V.str) (fun i σ G => ∃ y5 y6 y7 y8, σ = [some (.ref f), some (.int m), some (.ref L), some (.str asks), some (.ref En), y5, y6, y7, y8] ∧ Keep f H G ∧ Fd f a ns G (c + 5 + 7 * i) ∧
      G L = some (.lst (ys.map V.str)) ∧ ∃ ws es, G En = some (.lst ws) ∧ EntsAt K G ws es ∧ es.length = i ∧ (∀ e ∈ es, e.ok ∧ e.nice) ∧ es.map (·.name) = ys.take i ∧ ∀ e ∈ es, (e.has = true → e.name ≠ asks) ∧ e.row.Sublist ys)
      ⟨none, none, none, none, rfl, kA, fdA, eLA, [], [], eEn, .nil, rfl, (fun e he => by cases he), rfl, (fun e he => by cases he)⟩ (fun i σ G _ ⟨_, _, _, _, _, _, _, h, _⟩ => .inl (.inl h)) ?_ ?_⟩
    · rintro i x σ G hx ⟨y5, y6, y7, y8, rfl, kG, fdG, eLG, ws, es, eEG, hE, lE, okE, nE, aE⟩
      have hi : i < (ys.map V.str).length := (List.getElem?_eq_some_iff.mp hx).1
      rw [List.length_map] at hi
      obtain ⟨y, hy, rfl⟩ := map_get hx
      have hyn := hL y (List.mem_of_getElem? hy)
      refine ⟨.ref f, rfl, f, a, ns, _, 3, rfl, by decide, by decide, fdG, by omega, fun r5 G5 _ _ k5 fd5 => ⟨rfl, _, rfl, ite2 (fun _ => ?_) (fun _ => ?_)⟩⟩
      case' refine_1 =>
        refine ⟨_, rfl, _, rfl, rfl, ?_⟩
        have hne : (!decide (V.str y = V.str asks)) = true → y ≠ asks := fun z w => by
          rw [decide_eq_true (congrArg V.str w)] at z
          cases z
        generalize (!decide (V.str y = V.str asks)) = hb at hne ⊢
      case' refine_2 =>
        show Ends.nx _ (List.set _ 6 (some (V.bl (false && true)))) _
        have hne : (false && true) = true → y ≠ asks := fun z => by cases z
        generalize (false && true) = hb at hne ⊢
      all_goals
        have e5L := k5 _ _ (fd_ne fdG eLG) eLG
        have e5E := k5 _ _ (fd_ne fdG eEG) eEG
        have hE5 := hE.ts (ts_fd fdG k5)
        dsimp only
        refine seq_asg ?_
        refine ⟨.ref L, rfl, L, rfl, ⟨_, .inl (.inl e5L)⟩, fun D nD => ?_⟩
        have nDf := fd5.free nD
        have nDE : En ≠ D := ne_of_none e5E nD
        refine lc_list (K := K) (a := L) (xs := ys.map V.str) (fun k G6 => Keep f G5 G6 ∧ Fd f a ns G6 (c + 6 + 7 * i + k) ∧ ∃ zs : List Str, G6 D = some (.lst (zs.map V.str)) ∧ zs.Sublist (ys.take k))
          ⟨keep_same (same_new nD), (fd5.same (same_new nD)).more (by omega), [], upd_same, List.nil_sublist _⟩ (fun k G6 _ h => .inl (.inl (h.1 _ _ (fd_ne fd5 e5L) e5L))) ?_ ?_
        · rintro k v G6 hv ⟨k6, fd6, zs, eD, sz⟩
          have lz : zs.length ≤ k := Nat.le_trans sz.length_le (by rw [List.length_take]; exact Nat.min_le_left _ _)
          have hk : k < (ys.map V.str).length := (List.getElem?_eq_some_iff.mp hv).1
          rw [List.length_map] at hk
          obtain ⟨z, hzy, rfl⟩ := map_get hv
          refine ⟨rfl, ?_⟩
          refine ⟨.ref f, rfl, f, a, ns, _, 3, rfl, by decide, by decide, fd6, by omega, fun r7 G7 _ _ k7 fd7 => ⟨rfl, _, rfl, ?_⟩⟩
          have e7D := k7 _ _ (fd_ne fd6 eD) eD
          have k57 : Keep f G5 G7 := k6.trans k7
          refine ite2 (fun _ => ?_) (fun _ => ?_)
          · refine ⟨_, rfl, zs.map V.str, e7D, by rw [List.length_map]; exact small' (by omega), fun b o nb hb => ?_, (fd7.own nDf.1 nDf.2).more (by omega), zs ++ [z], ?_, ?_⟩
            · rw [upd_ne (ne_of_none hb nD)]
              exact k57 b o nb hb
            · rw [upd_same, List.map_append]
              rfl
            · rw [List.take_add_one, hzy]
              exact sz.append (List.Sublist.refl _)
          · refine ⟨k57, fd7.more (by omega), zs, e7D, ?_⟩
            rw [List.take_add_one]
            exact sz.trans (List.sublist_append_left _ _)
        · rintro G6 ⟨k6, fd6, zs, eD, sz⟩
          rw [List.length_map] at fd6 sz
          rw [List.take_length] at sz
          have lz : zs.length ≤ ys.length := sz.length_le
          have hz : ∀ z ∈ zs, z ∈ names := fun z h => hL z (sz.subset h)
          have e6E := k6 _ _ (fd_ne fd5 e5E) e5E
          have e6L := k6 _ _ (fd_ne fd5 e5L) e5L
          have hE6 := hE5.ts (ts_fd fd5 k6)
          -- entries.append
          refine ⟨.ref En, rfl, .inl ⟨rfl, _, .inl (.inl e6E)⟩, _, rfl, .ref f, rfl, 10, 59, rfl, rfl, ⟨by decide, by decide, by decide⟩, (show 9 ≤ sizeLine by decide), fun pl npl => ?_⟩
          refine ⟨f, a, pl, ns, c + 11 + 7 * i, fees9.map V.int, rfl, (fd6.same (same_new npl)).more (by omega), by omega, .inl (.inl upd_same), (show 0 < 9 by decide), (show 9 ≤ 1000 by decide), fun x7 G7 hx7 k7 fd7 => ?_⟩
          obtain ⟨fee, hfee, rfl⟩ := List.mem_map.mp hx7
          have fd6p := fd6.same (same_new (o := .lst (fees9.map V.int)) npl)
          have e6pE := same_new (o := .lst (fees9.map V.int)) npl _ _ e6E
          have e7E := k7 _ _ (fd_ne fd6p e6pE) e6pE
          have e6pL := same_new (o := .lst (fees9.map V.int)) npl _ _ e6L
          have e7L := k7 _ _ (fd_ne fd6p e6pL) e6pL
          have e6pD := same_new (o := .lst (fees9.map V.int)) npl _ _ eD
          have e7D := k7 _ _ (fd_ne fd6p e6pD) e6pD
          have hE7 := hE6.ts ((ts_same (same_new npl)).trans (ts_fd fd6p k7))
          have kk7 : Keep f H G7 := (((kG.trans k5).trans k6).trans (keep_same (same_new npl))).trans k7
          refine ⟨_, rfl, _, rfl, D, zs.map V.str, rfl, .inl ⟨.inl (.inl e7D), fun tr ntr => ⟨(show 4 ≤ sizeLine by decide), fun tp ntp => ?_⟩⟩⟩
          have sR : Same G7 (upd G7 tr (.tup (zs.map V.str))) := same_new ntr
          have sP : Same _ (upd (upd G7 tr (.tup (zs.map V.str))) tp (.tup [.str y, .int fee, .bl hb, .ref tr])) := same_new ntp
          have eR := sP _ _ (upd_same (H := G7) (a := tr) (o := .tup (zs.map V.str)))
          have eP : (upd (upd G7 tr (.tup (zs.map V.str))) tp (.tup [.str y, .int fee, .bl hb, .ref tr])) tp = some (.tup [.str y, .int fee, .bl hb, .ref tr]) := upd_same
          have sm := sR.trans sP
          generalize upd (upd G7 tr (.tup (zs.map V.str))) tp (.tup [.str y, .int fee, .bl hb, .ref tr]) = G8 at sm eR eP ⊢
          have e8E := sm _ _ e7E
          have e8L := sm _ _ e7L
          refine ⟨En, ws, _, rfl, rfl, e8E, by rw [hE.len]; exact small' (by omega), ?_⟩
          refine ⟨_, _, _, _, rfl, fun b o nb hb' => ?_, ((fd7.same sm).own nfa.1 nfa.2).more (by omega), ?_, ws ++ [.ref tp], es ++ [⟨y, fee, hb, zs⟩], upd_same, ?_, ?_, ?_, ?_, ?_⟩
          · rw [upd_ne (ne_of_none hb' n0E)]
            exact sm _ _ (kk7 b o nb hb')
          · rw [upd_ne nEL.symm]
            exact e8L
          · refine (hE7.ts ((ts_same sm).trans (ts_lst e8E))).append (.cons ⟨tp, tr, rfl, ?_, ?_⟩ .nil)
            · exact tupT (ts_lst e8E) (.inl (.inl eP))
            · exact tupT (ts_lst e8E) (.inl (.inl eR))
          · rw [List.length_append, lE]
            rfl
          · intro e he
            rcases List.mem_append.mp he with h | h
            · exact okE e h
            · rw [List.mem_singleton.mp h]
              exact ⟨⟨names_fit y hyn, fees9_ok fee hfee, by show zs.length ≤ 8; omega, fun z hz' => names_fit z (hz z hz')⟩, hyn, fees9_all fee hfee, hz, ascL.sublist sz⟩
          · rw [List.map_append, nE, List.take_add_one, hy]
            rfl
          · intro e he
            rcases List.mem_append.mp he with h | h
            · exact aE e h
            · rw [List.mem_singleton.mp h]
              exact ⟨hne, sz⟩
    · rintro σ G ⟨y5, y6, y7, y8, rfl, kG, fdG, eLG, ws, es, eEG, hE, lE, okE, nE, aE⟩
      rw [List.length_map] at lE fdG
      refine ⟨.ref En, rfl, En, ws, rfl, .inl ⟨.inl (.inl eEG), fun te nte => ⟨_, rfl, (show 2 ≤ sizeLine by decide), fun tp ntp => ?_⟩⟩⟩
      have sR : Same G (upd G te (.tup ws)) := same_new nte
      have sP : Same _ (upd (upd G te (.tup ws)) tp (.tup [.ref te, .str asks])) := same_new ntp
      have sm := sR.trans sP
      exact q (.ref tp) ⟨es, asks⟩ _ ⟨tp, te, ws, rfl, .inl (.inl upd_same), .inl (.inl (sP _ _ upd_same)), hE.same sm⟩ ⟨by show es.length ≤ 12; omega, (fun e he => (okE e he).1), names_fit asks (hL asks hasks)⟩ (fun e he => (okE e he).2) (by show Asc (es.map (·.name)); rw [nE, List.length_map, List.take_length]; exact ascL) (fun e he => ⟨(aE e he).1, by show e.row.Sublist (es.map (·.name)); rw [nE, List.length_map, List.take_length]; exact (aE e he).2⟩) (hL asks hasks) (by show 0 < es.length; omega) (by show es.length ≤ 5; omega) (kG.trans (keep_same sm)) ((fdG.same sm).more (by omega))
end
end Kn


namespace Kn
open PySem PySem.Spec PyProof.Rows L2
/-! ### data that can be shown -/
structure Sh (k B : Nat) (d : PyData) : Prop where
  ok : d.showable = true
  nd : d.hasDict = false
  dp : d.depth ≤ k
  ln : d.shown.length ≤ B
theorem Sh.mono {k B k' B' : Nat} {d : PyData} (h : Sh k B d) (a : k ≤ k') (b : B ≤ B') : Sh k' B' d := ⟨h.ok, h.nd, Nat.le_trans h.dp a, Nat.le_trans h.ln b⟩
theorem sh_str {n : Nat} {x : Str} (h : Fit n x) : Sh 0 (10 * n + 2) (.str x) := by
  refine ⟨rfl, rfl, Nat.le_refl _, ?_⟩
  show (reprText x).length ≤ _
  have := StrLaws.reprText_len x h.2
  have := h.1
  omega
theorem sh_int {i : Int} (h : i.natAbs < 10 ^ 60) : Sh 0 61 (.int i) := ⟨by show decide _ = true; exact decide_eq_true (fee_log h), rfl, Nat.le_refl _, (feeT_fit h).1⟩
theorem sh_bool (b : Bool) : Sh 0 5 (.bool b) := by
  refine ⟨rfl, rfl, Nat.le_refl _, ?_⟩
  cases b <;> decide +kernel
theorem shownAll_len {k B : Nat} : ∀ ds : List PyData, (∀ d ∈ ds, Sh k B d) → PyData.showableAll ds = true ∧ PyData.hasDictAll ds = false ∧ PyData.depthAll ds ≤ k ∧ ((PyData.shownAll ds).map (·.length)).sum ≤ ds.length * B ∧ (PyData.shownAll ds).length = ds.length
  | [], _ => ⟨rfl, rfl, Nat.zero_le _, Nat.zero_le _, rfl⟩
  | d :: r, h => by
    obtain ⟨a1, a2, a3, a4, a5⟩ := shownAll_len r fun x hx => h x (List.mem_cons_of_mem _ hx)
    have q := h d (List.mem_cons_self ..)
    refine ⟨?_, ?_, ?_, ?_, ?_⟩
    · show (d.showable && PyData.showableAll r) = true
      rw [q.ok, a1]
      rfl
    · show (d.hasDict || PyData.hasDictAll r) = false
      rw [q.nd, a2]
      rfl
    · show max d.depth (PyData.depthAll r) ≤ k
      have := q.dp
      omega
    · show ((d.shown :: PyData.shownAll r).map (·.length)).sum ≤ (r.length + 1) * B
      rw [List.map_cons, List.sum_cons, Nat.add_mul]
      have := q.ln
      omega
    · show (d.shown :: PyData.shownAll r).length = r.length + 1
      rw [List.length_cons, a5]
theorem sh_list {k B n : Nat} {ds : List PyData} (h : ∀ d ∈ ds, Sh k B d) (hn : ds.length ≤ n) : Sh (k + 1) (n * (B + 2) + 3) (.list ds) := by
  obtain ⟨a1, a2, a3, a4, a5⟩ := shownAll_len ds h
  refine ⟨a1, a2, Nat.succ_le_succ a3, ?_⟩
  show (listText (PyData.shownAll ds)).length ≤ _
  have q := listText_len_le (PyData.shownAll ds)
  rw [a5] at q
  have m : ds.length * (B + 2) ≤ n * (B + 2) := Nat.mul_le_mul_right _ hn
  rw [Nat.mul_add] at m
  omega
theorem sh_tup {k B n : Nat} {ds : List PyData} (h : ∀ d ∈ ds, Sh k B d) (hn : ds.length ≤ n) : Sh (k + 1) (n * (B + 2) + 3) (.tuple ds) := by
  obtain ⟨a1, a2, a3, a4, a5⟩ := shownAll_len ds h
  refine ⟨a1, a2, Nat.succ_le_succ a3, ?_⟩
  show (tupleText (PyData.shownAll ds)).length ≤ _
  have q := tupleText_len_le (PyData.shownAll ds)
  rw [a5] at q
  have m : ds.length * (B + 2) ≤ n * (B + 2) := Nat.mul_le_mul_right _ hn
  rw [Nat.mul_add] at m
  omega
def dEnt (e : Ent) : PyData := .tuple [.str e.name, .int e.fee, .bool e.has, .tuple (e.row.map PyData.str)]
def dPg (g : Pg) : PyData := .tuple [.tuple (g.es.map dEnt), .str g.asks]
theorem dp_strs {K : PySem.W.Frag} {H : Hp} : ∀ ss : List Str, DpAll K H (ss.map V.str) (ss.map PyData.str)
  | [] => .nil
  | s :: r => .cons (.str s) (dp_strs r)
theorem EntAt.dp {K : PySem.W.Frag} {H : Hp} {v : V} {e : Ent} (h : EntAt K H v e) : Dp K H v (dEnt e) := by
  obtain ⟨p, q, rfl, h1, h2⟩ := h
  exact .tup h1 (.cons (.str _) (.cons (.int _) (.cons (.bl _) (.cons (.tup h2 (dp_strs e.row)) .nil))))
theorem EntsAt.dp {K : PySem.W.Frag} {H : Hp} : ∀ {vs : List V} {es : List Ent}, EntsAt K H vs es → DpAll K H vs (es.map dEnt)
  | _, _, .nil => .nil
  | _, _, .cons a b => .cons a.dp (EntsAt.dp b)
theorem PgAt.dp {K : PySem.W.Frag} {H : Hp} {v : V} {g : Pg} (h : PgAt K H v g) : Dp K H v (dPg g) := by
  obtain ⟨p, q, vs, rfl, h1, h2, h3⟩ := h
  exact .tup h1 (.cons (.tup h2 h3.dp) (.cons (.str _) .nil))
theorem sh_ent {e : Ent} (h : e.ok) : Sh 2 3000 (dEnt e) := by
  obtain ⟨h1, h2, h3, h4⟩ := h
  refine (sh_tup (k := 1) (B := 675) (n := 4) ?_ (by simp)).mono (by decide) (by decide)
  intro d hd
  simp only [List.mem_cons, List.not_mem_nil, or_false] at hd
  rcases hd with rfl | rfl | rfl | rfl
  · exact (sh_str h1).mono (by decide) (by decide)
  · exact (sh_int h2).mono (by decide) (by decide)
  · exact (sh_bool _).mono (by decide) (by decide)
  · refine (sh_tup (k := 0) (B := 82) (n := 8) ?_ (by rw [List.length_map]; exact h3)).mono (by decide) (by decide)
    intro d hd
    obtain ⟨s, hs, rfl⟩ := List.mem_map.mp hd
    exact sh_str (h4 s hs)
theorem sh_pg {g : Pg} (h : g.ok) : Sh 4 100000 (dPg g) := by
  obtain ⟨h1, h2, h3⟩ := h
  refine (sh_tup (k := 3) (B := 40000) (n := 2) ?_ (by simp)).mono (by decide) (by decide)
  intro d hd
  simp only [List.mem_cons, List.not_mem_nil, or_false] at hd
  rcases hd with rfl | rfl
  · refine (sh_tup (k := 2) (B := 3000) (n := 12) ?_ (by rw [List.length_map]; exact h1)).mono (by decide) (by decide)
    intro d hd
    obtain ⟨e, he, rfl⟩ := List.mem_map.mp hd
    exact sh_ent (h2 e he)
  · exact (sh_str h3).mono (by decide) (by decide)

end Kn


/-! Kn: isinstance of data. -/
namespace Kn
open PySem PySem.Spec PyProof.Rows L2
def tyName : PyData → String
  | .none => "NoneType"
  | .bool _ => "bool"
  | .int _ => "int"
  | .str _ => "str"
  | .list _ => "list"
  | .tuple _ => "tuple"
  | .dict _ => "dict"
def intB : PyData → Bool
  | .int _ => true
  | _ => false
def boolB : PyData → Bool
  | .bool _ => true
  | _ => false
def strB : PyData → Bool
  | .str _ => true
  | _ => false
def posB : PyData → Bool
  | .int n => decide (1 ≤ n)
  | _ => false
theorem ty_of {K : PySem.W.Frag} {H : Hp} {v : V} {d : PyData} (h : Dp K H v d) : TyX K H v (.type (tyName d)) := by
  cases h with
  | non => exact .base .non
  | bl b => exact .base (.bl b)
  | int i => exact .base (.int i)
  | str x => exact .base (.str x)
  | lst h k =>
    rcases h with (h | ⟨o, h⟩) | ⟨o, its, n, h, c, _⟩
    · exact .base (.lst h)
    · exact .base (.frz h)
    · exact .kList h c
  | tup h k =>
    rcases h with (h | ⟨o, h⟩) | ⟨o, its, n, h, c, _⟩
    · exact .base (.tup h)
    · exact .fTuple h
    · exact .kTuple h c
theorem no_dict {K : PySem.W.Frag} {H : Hp} {v : V} {es : List (PyData × PyData)} (h : Dp K H v (.dict es)) : False := by cases h
section
variable {K : PySem.W.Frag} {d : PyData}
theorem kit_int : PySem.W.kitOne K (.type (tyName d)) (.type "int") = some (intB d || boolB d) := by
  cases d with
  | none => exact kit_ty (K := K) (a := "NoneType") (b := "int") (r := false) (by decide +kernel)
  | bool _ => exact kit_ty (K := K) (a := "bool") (b := "int") (r := true) (by decide +kernel)
  | int _ => exact kit_ty (K := K) (a := "int") (b := "int") (r := true) (by decide +kernel)
  | str _ => exact kit_ty (K := K) (a := "str") (b := "int") (r := false) (by decide +kernel)
  | list _ => exact kit_ty (K := K) (a := "list") (b := "int") (r := false) (by decide +kernel)
  | tuple _ => exact kit_ty (K := K) (a := "tuple") (b := "int") (r := false) (by decide +kernel)
  | dict _ => exact kit_ty (K := K) (a := "dict") (b := "int") (r := false) (by decide +kernel)
theorem kit_bool : PySem.W.kitOne K (.type (tyName d)) (.type "bool") = some (boolB d) := by
  cases d with
  | none => exact kit_ty (K := K) (a := "NoneType") (b := "bool") (r := false) (by decide +kernel)
  | bool _ => exact kit_ty (K := K) (a := "bool") (b := "bool") (r := true) (by decide +kernel)
  | int _ => exact kit_ty (K := K) (a := "int") (b := "bool") (r := false) (by decide +kernel)
  | str _ => exact kit_ty (K := K) (a := "str") (b := "bool") (r := false) (by decide +kernel)
  | list _ => exact kit_ty (K := K) (a := "list") (b := "bool") (r := false) (by decide +kernel)
  | tuple _ => exact kit_ty (K := K) (a := "tuple") (b := "bool") (r := false) (by decide +kernel)
  | dict _ => exact kit_ty (K := K) (a := "dict") (b := "bool") (r := false) (by decide +kernel)
theorem kit_str : PySem.W.kitOne K (.type (tyName d)) (.type "str") = some (strB d) := by
  cases d with
  | none => exact kit_ty (K := K) (a := "NoneType") (b := "str") (r := false) (by decide +kernel)
  | bool _ => exact kit_ty (K := K) (a := "bool") (b := "str") (r := false) (by decide +kernel)
  | int _ => exact kit_ty (K := K) (a := "int") (b := "str") (r := false) (by decide +kernel)
  | str _ => exact kit_ty (K := K) (a := "str") (b := "str") (r := true) (by decide +kernel)
  | list _ => exact kit_ty (K := K) (a := "list") (b := "str") (r := false) (by decide +kernel)
  | tuple _ => exact kit_ty (K := K) (a := "tuple") (b := "str") (r := false) (by decide +kernel)
  | dict _ => exact kit_ty (K := K) (a := "dict") (b := "str") (r := false) (by decide +kernel)
end
end Kn


/-! Kn: written data, as a whole. -/
namespace Kn
open PySem PySem.Spec PyProof.Rows L2
theorem sameDp {K : PySem.W.Frag} {H H' : Hp} (s : Same H H') {a : Addr} {xs : List V} (h : SqT K H a xs) : SqT K H' a xs := by
  rcases h with (h | ⟨o, h⟩) | h
  · exact .inl (.inl (s _ _ h))
  · exact .inl (.inr ⟨o, s _ _ h⟩)
  · exact .inr h
mutual
theorem dKeep {K : PySem.W.Frag} {H H' : Hp} (s : Same H H') : ∀ {v : V} {d : PyData}, Dp K H v d → Dp K H' v d
  | _, _, .non => .non
  | _, _, .bl b => .bl b
  | _, _, .int i => .int i
  | _, _, .str x => .str x
  | _, _, .lst h k => .lst (s.seq h) (dsKeep s k)
  | _, _, .tup h k => .tup (sameDp s h) (dsKeep s k)
theorem dsKeep {K : PySem.W.Frag} {H H' : Hp} (s : Same H H') : ∀ {vs : List V} {ds : List PyData}, DpAll K H vs ds → DpAll K H' vs ds
  | _, _, .nil => .nil
  | _, _, .cons a b => .cons (dKeep s a) (dsKeep s b)
end
theorem dsLen {K : PySem.W.Frag} {H : Hp} : ∀ {xs : List V} {ds : List PyData}, DpAll K H xs ds → xs.length = ds.length
  | _, _, .nil => rfl
  | _, _, .cons _ b => congrArg Nat.succ (dsLen b)
theorem dsApp {K : PySem.W.Frag} {H : Hp} : ∀ {xs ys : List V} {ds es : List PyData}, DpAll K H xs ds → DpAll K H ys es → DpAll K H (xs ++ ys) (ds ++ es)
  | _, _, _, _, .nil, h => h
  | _, _, _, _, .cons a b, h => .cons a (dsApp b h)
theorem dsAt {K : PySem.W.Frag} {H : Hp} : ∀ {xs : List V} {ds : List PyData}, DpAll K H xs ds → ∀ (i : Nat) (x : V), xs[i]? = some x → ∃ d, ds[i]? = some d ∧ Dp K H x d
  | _, _, .nil, i, x, h => by simp at h
  | _, _, .cons (d := d) a b, 0, x, h => by
    simp at h
    subst h
    exact ⟨d, rfl, a⟩
  | _, _, .cons a b, i + 1, x, h => dsAt b i x (by simpa using h)
theorem dsDrop {K : PySem.W.Frag} {H : Hp} : ∀ (n : Nat) {xs : List V} {ds : List PyData}, DpAll K H xs ds → DpAll K H (xs.drop n) (ds.drop n)
  | 0, _, _, h => h
  | n + 1, _, _, .nil => .nil
  | n + 1, _, _, .cons _ b => dsDrop n b
theorem dsTake {K : PySem.W.Frag} {H : Hp} : ∀ (n : Nat) {xs : List V} {ds : List PyData}, DpAll K H xs ds → DpAll K H (xs.take n) (ds.take n)
  | 0, _, _, _ => .nil
  | n + 1, _, _, .nil => .nil
  | n + 1, _, _, .cons a b => .cons a (dsTake n b)
theorem dsRev {K : PySem.W.Frag} {H : Hp} : ∀ {xs : List V} {ds : List PyData}, DpAll K H xs ds → DpAll K H xs.reverse ds.reverse
  | _, _, .nil => .nil
  | _, _, .cons a b => by
    rw [List.reverse_cons, List.reverse_cons]
    exact dsApp (dsRev b) (.cons a .nil)
/-- an expression that makes this data, and changes nothing -/
def DE (K : PySem.W.Frag) (t : TE) (d : PyData) : Prop := ∀ (σ : L2.St) (H : Hp) (Q : VK), (∀ (v : V) (H' : Hp), Same H H' → Dp K H' v d → Q v H') → t σ H Q
def DA (K : PySem.W.Frag) (t : TA) (ds : List PyData) : Prop := ∀ (σ : L2.St) (H : Hp) (Q : List V → Hp → Prop), (∀ (vs : List V) (H' : Hp), Same H H' → DpAll K H' vs ds → Q vs H') → t σ H Q
/-- a new list of this data -/
def DL (K : PySem.W.Frag) (t : TE) (ds : List PyData) : Prop := ∀ (σ : L2.St) (H : Hp) (Q : VK), (∀ (l : Addr) (vs : List V) (H' : Hp), Same H H' → H l = none → H' l = some (.lst vs) → DpAll K H' vs ds → Q (.ref l) H') → t σ H Q
section
variable {K : PySem.W.Frag} {t u : TE} {ta : TA} {d : PyData} {ds es : List PyData}
theorem de_non : DE K (tC .non) .none := fun _ H _ q => q _ H (Same.refl H) .non
theorem de_bl {b : Bool} : DE K (tC (.bl b)) (.bool b) := fun _ H _ q => q _ H (Same.refl H) (.bl b)
theorem de_int {i : Int} : DE K (tC (.int i)) (.int i) := fun _ H _ q => q _ H (Same.refl H) (.int i)
theorem de_str {x : Str} : DE K (tC (.str x)) (.str x) := fun _ H _ q => q _ H (Same.refl H) (.str x)
theorem de_neg {i : Int} : DE K (tUn (rU fun i => .int (-i)) (tC (.int i))) (.int (-i)) := fun _ H _ q => ⟨i, rfl, q _ H (Same.refl H) (.int _)⟩
theorem de_big {i j : Int} (h : CPow i j := by exact ⟨by decide, by decide, by decide⟩) : DE K (tOp (rI CPow fun i j => .int (i ^ j.toNat)) (tC (.int i)) (tC (.int j))) (.int (i ^ j.toNat)) := fun _ H _ q => ⟨i, j, rfl, rfl, h, q _ H (Same.refl H) (.int _)⟩
theorem da_nil : DA K tNil [] := fun _ H _ q => q _ H (Same.refl H) .nil
theorem da_cons (h : DE K t d) (k : DA K ta ds) : DA K (tCons t ta) (d :: ds) := fun σ H Q q => h σ H _ fun v H1 s1 d1 => k σ H1 _ fun vs H2 s2 d2 => q _ H2 (s1.trans s2) (.cons (dKeep s2 d1) d2)
theorem de_tup (h : DA K ta ds) (few : ds.length ≤ 1000) : DE K (tTup ta) (.tuple ds) := fun σ H Q q => h σ H _ fun vs H1 s1 d1 => by
  refine ⟨by rw [dsLen d1]; exact Nat.le_trans few (by decide), fun p np => ?_⟩
  have s2 := same_new (o := .tup vs) np
  exact q _ _ (s1.trans s2) (.tup (.inl (.inl upd_same)) (dsKeep s2 d1))
theorem dl_lst (h : DA K ta ds) (few : ds.length ≤ 1000) : DL K (tLst ta) ds := fun σ H Q q => h σ H _ fun vs H1 s1 d1 => by
  refine ⟨by rw [dsLen d1]; exact Nat.le_trans few (by decide), fun p np => ?_⟩
  have s2 := same_new (o := .lst vs) np
  exact q p vs _ (s1.trans s2) (s1.free np) upd_same (dsKeep s2 d1)
theorem de_lst (h : DA K ta ds) (few : ds.length ≤ 1000) : DE K (tLst ta) (.list ds) := fun σ H Q q => dl_lst h few σ H Q fun l vs H' s _ e d => q _ H' s (.lst (.inl (.inl e)) d)
theorem dl_cat (h : DL K t ds) (k : DL K u es) (few : ds.length + es.length ≤ 1000) : DL K (tOp rCat t u) (ds ++ es) := fun σ H Q q => h σ H _ fun l vs H1 s1 n1 e1 d1 => k σ H1 _ fun r ws H2 s2 n2 e2 d2 => by
  refine ⟨l, r, vs, ws, rfl, rfl, s2 _ _ e1, e2, by rw [dsLen d1, dsLen d2]; exact Nat.le_trans few (by decide), fun p np => ?_⟩
  have s3 := same_new (o := .lst (vs ++ ws)) np
  exact q p _ _ ((s1.trans s2).trans s3) ((s1.trans s2).free np) upd_same (dsKeep s3 (dsApp (dsKeep s2 d1) d2))
theorem dl_grow {l : Addr} {vs : List V} {H0 : Hp} {Q : VK} {σ : L2.St} (e : H0 l = some (.lst vs)) (d1 : DpAll K H0 vs ds) (ht : ∀ R : VK, R (.ref l) H0 → t σ H0 R) (k : DL K u es) (few : ds.length + es.length ≤ 1000)
    (q : ∀ (p : Addr) (ws : List V) (H' : Hp), Same H0 H' → H0 p = none → H' p = some (.lst ws) → DpAll K H' ws (ds ++ es) → Q (.ref p) H') : tOp rCat t u σ H0 Q := ht _ (k σ H0 _ fun r ws H2 s2 n2 e2 d2 => by
  refine ⟨l, r, vs, ws, rfl, rfl, s2 _ _ e, e2, by rw [dsLen d1, dsLen d2]; exact Nat.le_trans few (by decide), fun p np => ?_⟩
  have s3 := same_new (o := .lst (vs ++ ws)) np
  exact q p _ _ (s2.trans s3) (s2.free np) upd_same (dsKeep s3 (dsApp (dsKeep s2 d1) d2)))
end
/-! ### isinstance of a tuple -/
def tupB : PyData → Bool
  | .tuple _ => true
  | _ => false
theorem kit_tup {K : PySem.W.Frag} {d : PyData} : PySem.W.kitOne K (.type (tyName d)) (.type "tuple") = some (tupB d) := by
  cases d with
  | none => exact kit_ty (K := K) (a := "NoneType") (b := "tuple") (r := false) (by decide +kernel)
  | bool _ => exact kit_ty (K := K) (a := "bool") (b := "tuple") (r := false) (by decide +kernel)
  | int _ => exact kit_ty (K := K) (a := "int") (b := "tuple") (r := false) (by decide +kernel)
  | str _ => exact kit_ty (K := K) (a := "str") (b := "tuple") (r := false) (by decide +kernel)
  | list _ => exact kit_ty (K := K) (a := "list") (b := "tuple") (r := false) (by decide +kernel)
  | tuple _ => exact kit_ty (K := K) (a := "tuple") (b := "tuple") (r := true) (by decide +kernel)
  | dict _ => exact kit_ty (K := K) (a := "dict") (b := "tuple") (r := false) (by decide +kernel)
end Kn


/-! Kn: how large data is. -/
namespace Kn
open PySem PySem.Spec PyProof.Rows L2
mutual
def goodD : PyData → Bool
  | .none => true
  | .bool _ => true
  | .int i => decide (i.natAbs < 10 ^ 60)
  | .str x => x.cps.toList.all fun c => decide (c < 128)
  | .list ds => goodDs ds
  | .tuple ds => goodDs ds
  | .dict _ => false
def goodDs : List PyData → Bool
  | [] => true
  | d :: r => goodD d && goodDs r
end
mutual
def nodesD : PyData → Nat
  | .none => 1
  | .bool _ => 1
  | .int _ => 1
  | .str x => 1 + x.length
  | .list ds => 1 + nodesDs ds
  | .tuple ds => 1 + nodesDs ds
  | .dict _ => 1
def nodesDs : List PyData → Nat
  | [] => 0
  | d :: r => nodesD d + nodesDs r
end
theorem good_app : ∀ a b : List PyData, goodDs (a ++ b) = (goodDs a && goodDs b)
  | [], b => by rw [List.nil_append]; show _ = (true && goodDs b); rw [Bool.true_and]
  | d :: r, b => by
    show (goodD d && goodDs (r ++ b)) = (goodD d && goodDs r && goodDs b)
    rw [good_app r b, Bool.and_assoc]
theorem nodes_app : ∀ a b : List PyData, nodesDs (a ++ b) = nodesDs a + nodesDs b
  | [], b => by rw [List.nil_append]; show _ = 0 + nodesDs b; rw [Nat.zero_add]
  | d :: r, b => by
    show nodesD d + nodesDs (r ++ b) = nodesD d + nodesDs r + nodesDs b
    rw [nodes_app r b, Nat.add_assoc]
theorem depth_app : ∀ a b : List PyData, PyData.depthAll (a ++ b) = max (PyData.depthAll a) (PyData.depthAll b)
  | [], b => by rw [List.nil_append]; show _ = max 0 (PyData.depthAll b); rw [Nat.zero_max]
  | d :: r, b => by
    show max d.depth (PyData.depthAll (r ++ b)) = max (max d.depth (PyData.depthAll r)) (PyData.depthAll b)
    rw [depth_app r b, Nat.max_assoc]
theorem nodes_len : ∀ ds : List PyData, ds.length ≤ nodesDs ds
  | [] => Nat.le_refl _
  | d :: r => by
    have h := nodes_len r
    have p : 1 ≤ nodesD d := by
      cases d <;> first | exact Nat.le_refl 1 | exact Nat.le_add_right 1 _
    show r.length + 1 ≤ nodesD d + nodesDs r
    omega
/-- few, good and flat enough -/
structure Tm (n k : Nat) (ds : List PyData) : Prop where
  g : goodDs ds = true
  n : nodesDs ds ≤ n
  d : PyData.depthAll ds ≤ k
theorem Tm.mono {n k n' k' : Nat} {ds : List PyData} (h : Tm n k ds) (a : n ≤ n') (b : k ≤ k') : Tm n' k' ds := ⟨h.g, Nat.le_trans h.n a, Nat.le_trans h.d b⟩
theorem Tm.app {n m k : Nat} {a b : List PyData} (h : Tm n k a) (j : Tm m k b) : Tm (n + m) k (a ++ b) :=
  ⟨by rw [good_app, h.g, j.g]; rfl, by rw [nodes_app]; exact Nat.add_le_add h.n j.n, by rw [depth_app]; exact Nat.max_le.mpr ⟨h.d, j.d⟩⟩
theorem Tm.nil (n k : Nat) : Tm n k [] := ⟨rfl, Nat.zero_le _, Nat.zero_le _⟩
theorem Tm.split {n k : Nat} {a b : List PyData} (h : Tm n k (a ++ b)) : ∃ x y, x + y ≤ n ∧ Tm x k a ∧ Tm y k b := by
  have g := h.g
  rw [good_app] at g
  obtain ⟨g1, g2⟩ := Bool.and_eq_true_iff.mp g
  have nn := h.n
  rw [nodes_app] at nn
  have dd := h.d
  rw [depth_app] at dd
  obtain ⟨d1, d2⟩ := Nat.max_le.mp dd
  exact ⟨_, _, nn, ⟨g1, Nat.le_refl _, d1⟩, ⟨g2, Nat.le_refl _, d2⟩⟩
theorem Tm.cut {n k : Nat} {ds : List PyData} (h : Tm n k ds) (i : Nat) : ∃ x y, x + y ≤ n ∧ Tm x k (ds.take i) ∧ Tm y k (ds.drop i) := Tm.split (by rw [List.take_append_drop]; exact h)
theorem Tm.take {n k : Nat} {ds : List PyData} (h : Tm n k ds) (i : Nat) : Tm n k (ds.take i) := by
  obtain ⟨x, y, l, a, _⟩ := h.cut i
  exact a.mono (by omega) (Nat.le_refl _)
theorem Tm.drop {n k : Nat} {ds : List PyData} (h : Tm n k ds) (i : Nat) : Tm n k (ds.drop i) := by
  obtain ⟨x, y, l, _, b⟩ := h.cut i
  exact b.mono (by omega) (Nat.le_refl _)
theorem Tm.rev {n k : Nat} : ∀ {ds : List PyData}, Tm n k ds → Tm n k ds.reverse := by
  have all : ∀ ds : List PyData, goodDs ds.reverse = goodDs ds ∧ nodesDs ds.reverse = nodesDs ds ∧ PyData.depthAll ds.reverse = PyData.depthAll ds := by
    intro ds
    induction ds with
    | nil => exact ⟨rfl, rfl, rfl⟩
    | cons d r ih =>
      obtain ⟨a, b, c⟩ := ih
      rw [List.reverse_cons, good_app, nodes_app, depth_app, a, b, c]
      refine ⟨?_, ?_, ?_⟩
      · show (goodDs r && (goodD d && true)) = (goodD d && goodDs r)
        rw [Bool.and_true, Bool.and_comm]
      · show nodesDs r + (nodesD d + 0) = nodesD d + nodesDs r
        omega
      · show max (PyData.depthAll r) (max d.depth 0) = max d.depth (PyData.depthAll r)
        rw [Nat.max_zero, Nat.max_comm]
  intro ds h
  obtain ⟨a, b, c⟩ := all ds
  exact ⟨by rw [a]; exact h.g, by rw [b]; exact h.n, by rw [c]; exact h.d⟩
theorem Tm.one {n k : Nat} {d : PyData} (g : goodD d = true) (hn : nodesD d ≤ n) (hk : d.depth ≤ k) : Tm n k [d] := by
  refine ⟨?_, ?_, ?_⟩
  · show (goodD d && true) = true
    rw [g]
    rfl
  · show nodesD d + 0 ≤ n
    omega
  · show max d.depth 0 ≤ k
    omega
theorem Tm.get {n k : Nat} {ds : List PyData} (h : Tm n k ds) {i : Nat} {d : PyData} (e : ds[i]? = some d) : goodD d = true ∧ nodesD d ≤ n ∧ d.depth ≤ k := by
  have q := (h.drop i).take 1
  have e2 : (ds.drop i).take 1 = [d] := by
    rw [List.take_one, List.head?_drop, e]
    rfl
  rw [e2] at q
  obtain ⟨g, b, c⟩ := q
  refine ⟨?_, ?_, ?_⟩
  · have g : (goodD d && true) = true := g
    rw [Bool.and_true] at g
    exact g
  · have b : nodesD d + 0 ≤ n := b
    omega
  · have c : max d.depth 0 ≤ k := c
    omega
end Kn


/-! Kn: what good data shows, and that it can be compared. -/
namespace Kn
open PySem PySem.Spec PyProof.Rows L2
theorem ascii_fit {x : Str} (h : (x.cps.toList.all fun c => decide (c < 128)) = true) : Fit x.length x := ⟨Nat.le_refl _, fun c hc => Nat.lt_trans (of_decide_eq_true (List.all_eq_true.mp h c hc)) (by decide)⟩
theorem sum_map {ds : List Str} : (ds.map (·.length)).sum = (ds.map (·.length)).sum := rfl
mutual
theorem good_shown : ∀ d : PyData, goodD d = true → d.showable = true ∧ d.hasDict = false ∧ d.shown.length + 2 ≤ 80 * nodesD d
  | .none, _ => ⟨rfl, rfl, by decide +kernel⟩
  | .bool b, _ => by
    refine ⟨rfl, rfl, ?_⟩
    cases b <;> decide +kernel
  | .int i, h => by
    have h : i.natAbs < 10 ^ 60 := of_decide_eq_true h
    refine ⟨by show decide _ = true; exact decide_eq_true (fee_log h), rfl, ?_⟩
    have q : (feeT i).length ≤ 61 := (feeT_fit h).1
    show (feeT i).length + 2 ≤ 80 * 1
    omega
  | .str x, h => by
    refine ⟨rfl, rfl, ?_⟩
    have q := StrLaws.reprText_len x (ascii_fit h).2
    show (reprText x).length + 2 ≤ 80 * (1 + x.length)
    omega
  | .list ds, h => by
    obtain ⟨a, b, c, e⟩ := good_all ds h
    refine ⟨a, b, ?_⟩
    have q := listText_len_le (PyData.shownAll ds)
    rw [e] at q
    show (listText (PyData.shownAll ds)).length + 2 ≤ 80 * (1 + nodesDs ds)
    omega
  | .tuple ds, h => by
    obtain ⟨a, b, c, e⟩ := good_all ds h
    refine ⟨a, b, ?_⟩
    have q := tupleText_len_le (PyData.shownAll ds)
    rw [e] at q
    show (tupleText (PyData.shownAll ds)).length + 2 ≤ 80 * (1 + nodesDs ds)
    omega
  | .dict _, h => by cases h
theorem good_all : ∀ ds : List PyData, goodDs ds = true → PyData.showableAll ds = true ∧ PyData.hasDictAll ds = false ∧ ((PyData.shownAll ds).map (·.length)).sum + 2 * ds.length ≤ 80 * nodesDs ds ∧ (PyData.shownAll ds).length = ds.length
  | [], _ => ⟨rfl, rfl, Nat.zero_le _, rfl⟩
  | d :: r, h => by
    have h : (goodD d && goodDs r) = true := h
    obtain ⟨h1, h2⟩ := Bool.and_eq_true_iff.mp h
    obtain ⟨a1, b1, c1⟩ := good_shown d h1
    obtain ⟨a2, b2, c2, e2⟩ := good_all r h2
    refine ⟨?_, ?_, ?_, ?_⟩
    · show (d.showable && PyData.showableAll r) = true
      rw [a1, a2]
      rfl
    · show (d.hasDict || PyData.hasDictAll r) = false
      rw [b1, b2]
      rfl
    · show ((d.shown :: PyData.shownAll r).map (·.length)).sum + 2 * (r.length + 1) ≤ 80 * (nodesD d + nodesDs r)
      rw [List.map_cons, List.sum_cons]
      omega
    · show (d.shown :: PyData.shownAll r).length = r.length + 1
      rw [List.length_cons, e2]
end
mutual
theorem good_lay : ∀ d : PyData, goodD d = true → d.canLay0 = true
  | .none, _ => rfl
  | .bool _, _ => rfl
  | .int _, _ => rfl
  | .str x, h => by
    show x.cps.all (· < 0x110000) = true
    rw [← Array.all_toList]
    exact List.all_eq_true.mpr fun c hc => decide_eq_true (Nat.lt_trans (of_decide_eq_true (List.all_eq_true.mp h c hc)) (by decide))
  | .list ds, h => good_lays ds h
  | .tuple ds, h => good_lays ds h
  | .dict _, h => by cases h
theorem good_lays : ∀ ds : List PyData, goodDs ds = true → PyData.canLayAll0 ds = true
  | [], _ => rfl
  | d :: r, h => by
    have h : (goodD d && goodDs r) = true := h
    obtain ⟨h1, h2⟩ := Bool.and_eq_true_iff.mp h
    show (d.canLay0 && PyData.canLayAll0 r) = true
    rw [good_lay d h1, good_lays r h2]
    rfl
end
theorem good_shaped {d : PyData} (h : goodD d = true) (l : d.depth ≤ 64) : SeqAt.shaped d = true := by
  unfold SeqAt.shaped
  rw [good_lay d h, decide_eq_true l]
  rfl
end Kn


namespace Kn
open PySem PySem.Spec PyProof.Rows L2
abbrev nStr : List Str := ["_law_feed", "_law_some"]
theorem scStr : FnScope nStr ["_law_feed"] (defScope (topS 23)) := ⟨rfl, rfl, rfl, by decide +kernel, rfl, by decide +kernel, by decide +kernel⟩
def sgA : List PyData := [.none, .bool true, .bool false, .int 0, .int 1, .int 2, .int (-1), .int (10 ^ (59 : Int).toNat), .str "", .str "a", .str "b", .str "zz", .str "abcdefgh", .str "abcdefghi", .str "A", .str "a b", .str "-"]
def sgB : List PyData := [.str "a,b", .str "on", .str "came", .tuple [], .list [], .tuple [.str "a"], .tuple [.str "a", .str "b"], .tuple [.str "b", .str "a"], .tuple [.str "a", .str "a"], .list [.str "a"], .tuple [.str "a", .int 0]]
def sgC : List PyData := [.tuple [.str "a", .bool true], .tuple [.str "a", .int (-1)], .tuple [.str "a", .int 1, .bool false, .tuple []], .tuple [.str "a", .int 1, .bool false, .tuple [.str "a"]], .tuple [.str "a", .int 0, .bool false, .tuple []]]
def sgD : List PyData := [.tuple [.str "a", .int 1, .int 0, .tuple []], .tuple [.tuple [.str "a", .int 0], .tuple [.str "b", .int 1]], .tuple [.str "note", .str "a"], .tuple [.str "guard", .str "on"], .tuple [.tuple [.str "a", .int 1, .bool false, .tuple []]]]
def strangeD : List PyData := sgA ++ sgB ++ sgC ++ sgD
theorem strange_ok : ∀ d ∈ strangeD, goodD d = true ∧ nodesD d ≤ 10 ∧ d.depth ≤ 3 := by
  have all : (strangeD.all fun d => goodD d && decide (nodesD d ≤ 10) && decide (d.depth ≤ 3)) = true := by decide +kernel
  intro d hd
  obtain ⟨h1, h2⟩ := Bool.and_eq_true_iff.mp (List.all_eq_true.mp all d hd)
  obtain ⟨h3, h4⟩ := Bool.and_eq_true_iff.mp h1
  exact ⟨h3, of_decide_eq_true h4, of_decide_eq_true h2⟩
theorem dp_in {K : PySem.W.Frag} {H : Hp} : ∀ {xs : List V} {ds : List PyData}, DpAll K H xs ds → ∀ x ∈ xs, ∃ d ∈ ds, Dp K H x d
  | _, _, .nil, x, hx => by cases hx
  | _, _, .cons a b, x, hx => by
    rcases List.mem_cons.mp hx with rfl | hx
    · exact ⟨_, List.mem_cons_self .., a⟩
    · obtain ⟨d, hd, q⟩ := dp_in b x hx
      exact ⟨d, List.mem_cons_of_mem _ hd, q⟩
mutual
theorem dG {K : PySem.W.Frag} {H H' : Hp} (hl : ∀ a xs, SqL K H a xs → SqL K H' a xs) (ht : ∀ a xs, SqT K H a xs → SqT K H' a xs) : ∀ {v : V} {d : PyData}, Dp K H v d → Dp K H' v d
  | _, _, .non => .non
  | _, _, .bl b => .bl b
  | _, _, .int i => .int i
  | _, _, .str x => .str x
  | _, _, .lst h k => .lst (hl _ _ h) (dGs hl ht k)
  | _, _, .tup h k => .tup (ht _ _ h) (dGs hl ht k)
theorem dGs {K : PySem.W.Frag} {H H' : Hp} (hl : ∀ a xs, SqL K H a xs → SqL K H' a xs) (ht : ∀ a xs, SqT K H a xs → SqT K H' a xs) : ∀ {vs : List V} {ds : List PyData}, DpAll K H vs ds → DpAll K H' vs ds
  | _, _, .nil => .nil
  | _, _, .cons a b => .cons (dG hl ht a) (dGs hl ht b)
end
theorem dFd {K : PySem.W.Frag} {f a : Addr} {ns : List Int} {H H' : Hp} {c : Nat} (d : Fd f a ns H c) (k : Keep f H H') {v : V} {x : PyData} (h : Dp K H v x) : Dp K H' v x := dG (fun _ _ q => seqK d k q) (fun _ _ q => tupT (ts_fd d k) q) h
theorem dsFd {K : PySem.W.Frag} {f a : Addr} {ns : List Int} {H H' : Hp} {c : Nat} (d : Fd f a ns H c) (k : Keep f H H') {vs : List V} {ds : List PyData} (h : DpAll K H vs ds) : DpAll K H' vs ds := dGs (fun _ _ q => seqK d k q) (fun _ _ q => tupT (ts_fd d k) q) h
def spStrange (K : PySem.W.Frag) : Sp := fun vs H Q _ => ∃ (f a : Addr) (ns : List Int) (c : Nat), vs = [.ref f] ∧ Fd f a ns H c ∧ c < 90000 ∧
  ∀ (v : V) (d : PyData) (H' : Hp), d ∈ strangeD → Dp K H' v d → Keep f H H' → Fd f a ns H' (c + 1) → Q v H'
section
variable {P : Program} {w : World} {K : PySem.W.Frag} {mg : Str → Option Value} {base : Heap}
theorem ok_strange {g gA : Addr} {fd fdA : FuncData} (F : Fun K "_law_strange" "_law_strange" (topS 23) g fd) (FA : Fun K "_law_any" "_law_any" (topS 20) gA fdA) (bA : Binds K fdA ["_law_feed", "_law_some"] []) (mA : mg "_law_any" = some (.ref gA))
    (GA : FnOk P w K mg base CX0 2 gA fdA ["_law_feed", "_law_some"] (spAny K)) : FnOk P w K mg base CX0 3 g fd ["_law_feed"] (spStrange K) := by
  refine F.ok scStr (fun vs H Q E h => ?_) (fun cdv A outer s H vs Q E hr h => ?_)
  · obtain ⟨f, a, ns, c, rfl, _⟩ := h
    rfl
  · obtain ⟨f, a, ns, c, rfl, fd0, hc, q⟩ := h
    refine ⟨_, pss_cons (ps_set (i := 1) scStr.nd rfl (.inl rfl) (pe_lst (pa_cons pe_non (pa_cons pe_bl (pa_cons pe_bl (pa_cons pe_int (pa_cons pe_int (pa_cons pe_int (pa_cons (pe_un un_neg pe_int) (pa_cons (pe_op op_pow pe_int pe_int) (pa_cons pe_str (pa_cons pe_str (pa_cons pe_str (pa_cons pe_str (pa_cons pe_str (pa_cons pe_str (pa_cons pe_str (pa_cons pe_str (pa_cons pe_str pa_nil)))))))))))))))))))
      (pss_cons (ps_set (i := 1) scStr.nd rfl (.inl rfl) (pe_op op_cat (pv 1) (pe_lst (pa_cons pe_str (pa_cons pe_str (pa_cons pe_str (pa_cons (pe_tup pa_nil) (pa_cons (pe_lst pa_nil) (pa_cons (pe_tup (pa_cons pe_str pa_nil)) (pa_cons (pe_tup (pa_cons pe_str (pa_cons pe_str pa_nil))) (pa_cons (pe_tup (pa_cons pe_str (pa_cons pe_str pa_nil))) (pa_cons (pe_tup (pa_cons pe_str (pa_cons pe_str pa_nil))) (pa_cons (pe_lst (pa_cons pe_str pa_nil)) (pa_cons (pe_tup (pa_cons pe_str (pa_cons pe_int pa_nil))) pa_nil))))))))))))))
      (pss_cons (ps_set (i := 1) scStr.nd rfl (.inl rfl) (pe_op op_cat (pv 1) (pe_lst (pa_cons (pe_tup (pa_cons pe_str (pa_cons pe_bl pa_nil))) (pa_cons (pe_tup (pa_cons pe_str (pa_cons (pe_un un_neg pe_int) pa_nil))) (pa_cons (pe_tup (pa_cons pe_str (pa_cons pe_int (pa_cons pe_bl (pa_cons (pe_tup pa_nil) pa_nil))))) (pa_cons (pe_tup (pa_cons pe_str (pa_cons pe_int (pa_cons pe_bl (pa_cons (pe_tup (pa_cons pe_str pa_nil)) pa_nil))))) (pa_cons (pe_tup (pa_cons pe_str (pa_cons pe_int (pa_cons pe_bl (pa_cons (pe_tup pa_nil) pa_nil))))) pa_nil))))))))
      (pss_cons (ps_set (i := 1) scStr.nd rfl (.inl rfl) (pe_op op_cat (pv 1) (pe_lst (pa_cons (pe_tup (pa_cons pe_str (pa_cons pe_int (pa_cons pe_int (pa_cons (pe_tup pa_nil) pa_nil))))) (pa_cons (pe_tup (pa_cons (pe_tup (pa_cons pe_str (pa_cons pe_int pa_nil))) (pa_cons (pe_tup (pa_cons pe_str (pa_cons pe_int pa_nil))) pa_nil))) (pa_cons (pe_tup (pa_cons pe_str (pa_cons pe_str pa_nil))) (pa_cons (pe_tup (pa_cons pe_str (pa_cons pe_str pa_nil))) (pa_cons (pe_tup (pa_cons (pe_tup (pa_cons pe_str (pa_cons pe_int (pa_cons pe_bl (pa_cons (pe_tup pa_nil) pa_nil))))) pa_nil)) pa_nil))))))))
      (pss_one (ps_ret (pe_call GA hr (by rfl) mA FA.kp bA .nil pass0 (pa_cons (pv 0) (pa_cons (pv 1) pa_nil)))))))), ?_⟩
    refine seq_asg ((dl_lst (K := K) (da_cons de_non (da_cons de_bl (da_cons de_bl (da_cons de_int (da_cons de_int (da_cons de_int (da_cons de_neg (da_cons de_big (da_cons de_str (da_cons de_str (da_cons de_str (da_cons de_str (da_cons de_str (da_cons de_str (da_cons de_str (da_cons de_str (da_cons de_str da_nil))))))))))))))))) (show 17 ≤ 1000 by decide)) _ _ _ fun l0 vs0 H0 s0 n0 e0 d0 => ?_)
    dsimp only [gName]
    refine seq_asg (dl_grow e0 d0 (fun R r => ⟨_, rfl, r⟩) (dl_lst (K := K) (da_cons de_str (da_cons de_str (da_cons de_str (da_cons (de_tup da_nil (show 0 ≤ 1000 by decide)) (da_cons (de_lst da_nil (show 0 ≤ 1000 by decide)) (da_cons (de_tup (da_cons de_str da_nil) (show 1 ≤ 1000 by decide)) (da_cons (de_tup (da_cons de_str (da_cons de_str da_nil)) (show 2 ≤ 1000 by decide)) (da_cons (de_tup (da_cons de_str (da_cons de_str da_nil)) (show 2 ≤ 1000 by decide)) (da_cons (de_tup (da_cons de_str (da_cons de_str da_nil)) (show 2 ≤ 1000 by decide)) (da_cons (de_lst (da_cons de_str da_nil) (show 1 ≤ 1000 by decide)) (da_cons (de_tup (da_cons de_str (da_cons de_int da_nil)) (show 2 ≤ 1000 by decide)) da_nil))))))))))) (show 11 ≤ 1000 by decide)) (show 28 ≤ 1000 by decide) fun l1 vs1 H1 s1 n1 e1 d1 => ?_)
    dsimp only [gName]
    refine seq_asg (dl_grow e1 d1 (fun R r => ⟨_, rfl, r⟩) (dl_lst (K := K) (da_cons (de_tup (da_cons de_str (da_cons de_bl da_nil)) (show 2 ≤ 1000 by decide)) (da_cons (de_tup (da_cons de_str (da_cons de_neg da_nil)) (show 2 ≤ 1000 by decide)) (da_cons (de_tup (da_cons de_str (da_cons de_int (da_cons de_bl (da_cons (de_tup da_nil (show 0 ≤ 1000 by decide)) da_nil)))) (show 4 ≤ 1000 by decide)) (da_cons (de_tup (da_cons de_str (da_cons de_int (da_cons de_bl (da_cons (de_tup (da_cons de_str da_nil) (show 1 ≤ 1000 by decide)) da_nil)))) (show 4 ≤ 1000 by decide)) (da_cons (de_tup (da_cons de_str (da_cons de_int (da_cons de_bl (da_cons (de_tup da_nil (show 0 ≤ 1000 by decide)) da_nil)))) (show 4 ≤ 1000 by decide)) da_nil))))) (show 5 ≤ 1000 by decide)) (show 33 ≤ 1000 by decide) fun l2 vs2 H2 s2 n2 e2 d2 => ?_)
    dsimp only [gName]
    refine seq_asg (dl_grow e2 d2 (fun R r => ⟨_, rfl, r⟩) (dl_lst (K := K) (da_cons (de_tup (da_cons de_str (da_cons de_int (da_cons de_int (da_cons (de_tup da_nil (show 0 ≤ 1000 by decide)) da_nil)))) (show 4 ≤ 1000 by decide)) (da_cons (de_tup (da_cons (de_tup (da_cons de_str (da_cons de_int da_nil)) (show 2 ≤ 1000 by decide)) (da_cons (de_tup (da_cons de_str (da_cons de_int da_nil)) (show 2 ≤ 1000 by decide)) da_nil)) (show 2 ≤ 1000 by decide)) (da_cons (de_tup (da_cons de_str (da_cons de_str da_nil)) (show 2 ≤ 1000 by decide)) (da_cons (de_tup (da_cons de_str (da_cons de_str da_nil)) (show 2 ≤ 1000 by decide)) (da_cons (de_tup (da_cons (de_tup (da_cons de_str (da_cons de_int (da_cons de_bl (da_cons (de_tup da_nil (show 0 ≤ 1000 by decide)) da_nil)))) (show 4 ≤ 1000 by decide)) da_nil) (show 1 ≤ 1000 by decide)) da_nil))))) (show 5 ≤ 1000 by decide)) (show 38 ≤ 1000 by decide) fun l3 vs3 H3 s3 n3 e3 d3 => ?_)
    dsimp only [gName]
    have sA := (((s0.trans s1).trans s2).trans s3)
    have fdA := fd0.same sA
    have len : vs3.length = 38 := dsLen d3
    refine ⟨.ref f, rfl, .ref l3, rfl, f, a, l3, ns, c, vs3, rfl, fdA, by omega, .inl (.inl e3), by omega, by omega, fun x G hx k fdG => ?_⟩
    obtain ⟨d, hd, dp⟩ := dp_in d3 x hx
    refine q x d G ?_ (dFd fdA k dp) ((keep_same sA).trans k) fdG
    exact hd
end
end Kn


/-! Kn: parts of tuples of data, and two of them together; parts of texts. -/
namespace Kn
open PySem PySem.Spec PyProof.Rows L2
section
variable {K : PySem.W.Frag} {H : Hp} {Q : VK} {r r2 : V} {ds es : List PyData}
theorem slA_any {lo hi : Option Int} (h : Dp K H r (.tuple ds))
    (q : ∀ (r' : V) (H' : Hp), Same H H' → Dp K H' r' (.tuple ((ds.drop (HT.sIx ds.length 0 lo)).take (HT.sIx ds.length ds.length hi - HT.sIx ds.length 0 lo))) → Q r' H') : rSlA K r lo hi H Q := by
  cases h with
  | tup ht hd =>
    rename_i a xs
    have l := dsLen hd
    refine ⟨a, xs, rfl, ht, fun w => ?_, fun _ p np => ?_⟩
    · rw [l] at w
      refine q _ H (Same.refl H) ?_
      rw [w.1, w.2, List.drop_zero, Nat.sub_zero, List.take_length]
      exact .tup ht hd
    · have s := same_new (o := .tup (cutV xs lo hi)) np
      refine q _ _ s (.tup (.inl (.inl upd_same)) ?_)
      unfold cutV
      rw [l]
      exact dsKeep (same_new np) (dsTake _ (dsDrop _ hd))
theorem slA_take {k : Nat} (h : Dp K H r (.tuple ds)) (hk : k ≤ ds.length) (q : ∀ (r' : V) (H' : Hp), Same H H' → Dp K H' r' (.tuple (ds.take k)) → Q r' H') : rSlA K r none (some (k : Int)) H Q :=
  slA_any h fun r' H' s d => q r' H' s (by
    rw [HT.sIx_none, HT.sIx_nat, Nat.min_eq_left hk, List.drop_zero, Nat.sub_zero] at d
    exact d)
theorem slA_drop {k : Nat} (h : Dp K H r (.tuple ds)) (q : ∀ (r' : V) (H' : Hp), Same H H' → Dp K H' r' (.tuple (ds.drop k)) → Q r' H') : rSlA K r (some (k : Int)) none H Q :=
  slA_any h fun r' H' s d => q r' H' s (by
    rw [HT.sIx_none, HT.sIx_nat, List.take_of_length_le (by rw [List.length_drop]; exact Nat.le_refl _)] at d
    by_cases l : k ≤ ds.length
    · rw [Nat.min_eq_left l] at d
      exact d
    · rw [Nat.min_eq_right (by omega), List.drop_of_length_le (Nat.le_refl _)] at d
      rw [List.drop_of_length_le (by omega)]
      exact d)
theorem slA_mid {i j : Nat} (h : Dp K H r (.tuple ds)) (q : ∀ (r' : V) (H' : Hp), Same H H' → Dp K H' r' (.tuple ((ds.drop (min i ds.length)).take (min j ds.length - min i ds.length))) → Q r' H') : rSlA K r (some (i : Int)) (some (j : Int)) H Q :=
  slA_any h fun r' H' s d => q r' H' s (by
    rw [HT.sIx_nat, HT.sIx_nat] at d
    exact d)
theorem catA (h : Dp K H r (.tuple ds)) (k : Dp K H r2 (.tuple es)) (few : ds.length + es.length ≤ 1000) (q : ∀ (r' : V) (H' : Hp), Same H H' → Dp K H' r' (.tuple (ds ++ es)) → Q r' H') : rCatA K r r2 H Q := by
  cases h with
  | tup h1 h2 =>
    rename_i a xs
    cases k with
    | tup k1 k2 =>
      rename_i b ys
      refine ⟨a, b, xs, ys, rfl, rfl, h1, k1, by rw [dsLen h2, dsLen k2]; exact Nat.le_trans few (by decide), fun e => ?_, fun _ e => ?_, fun _ _ p np => ?_⟩
      · subst e
        cases h2
        exact q _ H (Same.refl H) (.tup k1 k2)
      · subst e
        cases k2
        rw [List.append_nil] at q
        exact q _ H (Same.refl H) (.tup h1 h2)
      · have s := same_new (o := .tup (xs ++ ys)) np
        exact q _ _ s (.tup (.inl (.inl upd_same)) (dsKeep s (dsApp h2 k2)))
end
/-! ### texts -/
def asciiB (x : Str) : Bool := x.cps.toList.all fun c => decide (c < 128)
theorem ascii_cut {z : Str} (h : asciiB z = true) (lo hi : Option Int) : asciiB (cutS z lo hi) = true := by
  refine List.all_eq_true.mpr fun c hc => ?_
  have hc : c ∈ ((z.cps.toList.drop (HT.sIx z.length 0 lo)).take (HT.sIx z.length z.length hi - HT.sIx z.length 0 lo)).toArray.toList := hc
  exact List.all_eq_true.mp h c (List.mem_of_mem_drop (List.mem_of_mem_take hc))
theorem ascii_app {x y : Str} (h : asciiB x = true) (k : asciiB y = true) : asciiB (x ++ y) = true := by
  unfold asciiB at *
  rw [Str.cps_append, Array.toList_append, List.all_append, h, k]
  rfl
theorem slen_app (x y : Str) : (x ++ y).length = x.length + y.length := by
  show (x ++ y).cps.size = x.cps.size + y.cps.size
  rw [Str.cps_append, Array.size_append]
end Kn


namespace Kn
open PySem PySem.Spec PyProof.Rows L2
/-! ### t[::-1] of a tuple -/
section
variable {prog : Program} {w : World} {A : Around} {E : Value → Shared → Prop} {s : Shared}
theorem places_back (n : Nat) : Builtin.Slice.sliceAdjust none none (-1) (n : Int) = ((n : Int) - 1, -1) := by
  unfold Builtin.Slice.sliceAdjust
  rfl
theorem count_back (n : Nat) : Builtin.Slice.slicePlaces ((n : Int) - 1) (-1) (-1) = n := by
  unfold Builtin.Slice.slicePlaces
  simp
  omega
theorem fm_congr {α β : Type} {f g : α → Option β} : ∀ {l : List α}, (∀ x ∈ l, f x = g x) → l.filterMap f = l.filterMap g
  | [], _ => rfl
  | x :: r, h => by
    rw [List.filterMap_cons, List.filterMap_cons, h x (List.mem_cons_self ..), fm_congr (l := r) fun y hy => h y (List.mem_cons_of_mem _ hy)]
theorem pick_back (xs : Array Value) : ((List.range xs.size).filterMap fun (k : Nat) => xs[((xs.size : Int) - 1 + (k : Int) * -1).toNat]?).toArray = xs.toList.reverse.toArray := by
  have e : (List.range xs.size).filterMap (fun (k : Nat) => xs[((xs.size : Int) - 1 + (k : Int) * -1).toNat]?) = xs.toList.reverse := by
    have h : ∀ k ∈ List.range xs.size, xs[((xs.size : Int) - 1 + (k : Int) * -1).toNat]? = xs.toList.reverse[k]? := by
      intro k hk
      have hk := List.mem_range.mp hk
      have hl : k < xs.toList.length := by rw [Array.length_toList]; exact hk
      rw [List.getElem?_reverse hl, Array.getElem?_toList, Array.length_toList]
      congr 1
      omega
    rw [fm_congr h]
    have n : xs.size = xs.toList.reverse.length := by rw [List.length_reverse, Array.length_toList]
    rw [n]
    generalize xs.toList.reverse = ys
    induction ys with
    | nil => rfl
    | cons y r ih =>
      rw [List.length_cons, List.range_succ_eq_map, List.filterMap_cons, List.filterMap_map]
      show y :: List.filterMap (fun k => r[k]?) (List.range r.length) = y :: r
      rw [ih]
  rw [e]
theorem cut_back {sl : Addr} {vl vu vs : Value} {n : Nat} {R : Int × Int × Nat → Shared → Prop} (hs : s.heap.IsSliceOf sl vl vu vs) (pl : IsPart vl none) (pu : IsPart vu none) (ps : IsPart vs (some (-1)))
    (r : R ((n : Int) - 1, -1, n) s) : wpAny (model prog w) A (Builtin.Slice.sliceApplied (.ref sl) (pure (n : Int))) R E s := by
  obtain ⟨o, ho, _, hd⟩ := id hs
  unfold Builtin.Slice.sliceApplied Builtin.Slice.sliceFields
  refine wpAny_bind (wpAny_bind (wpAny_field ho hd (x := vl) rfl (wpAny_bind (wpAny_field ho hd (x := vu) rfl (wpAny_bind (wpAny_field ho hd (x := vs) rfl (wpAny_pure ?_)))))))
  refine wpAny_bind (HT.slicePart_ ps ?_)
  show wpAny _ _ (if ((-1 : Int) == 0) = true then _ else _) _ _ s
  rw [if_neg (by decide)]
  refine wpAny_bind (HT.slicePart_ pl (wpAny_bind (HT.slicePart_ pu (wpAny_bind (wpAny_pure ?_)))))
  show wpAny _ _ (pure (((n : Int) - 1, (-1 : Int), Builtin.Slice.slicePlaces ((n : Int) - 1) (-1) (-1)))) _ _ s
  rw [count_back]
  exact wpAny_pure r
theorem get_back {t sl : Addr} {its : Array Value} {vl vu vs : Value} {Q : Value → Shared → Prop} (ht : IsTup s.heap t its) (hs : s.heap.IsSliceOf sl vl vu vs) (pl : IsPart vl none) (pu : IsPart vu none) (ps : IsPart vs (some (-1)))
    (q : Q (.ref s.heap.objs.size) { s with heap := s.heap.push { cls := .type "tuple", data := .seq its.toList.reverse.toArray } }) (room : its.size ≤ sizeLine) : wpAny (model prog w) A (getItem (.ref t) (.ref sl)) Q E s := by
  have isSl : s.TypeIs (.ref sl) "slice" := let ⟨os, a, b, _⟩ := hs; ⟨os, a, b⟩
  have fits : sizeOk (.seq its.toList.reverse.toArray) := by
    show its.toList.reverse.toArray.size ≤ sizeLine
    rw [List.size_toArray, List.length_reverse, Array.length_toList]
    exact room
  unfold getItem
  refine wpAny_holding ?_
  refine wpAny_bind (wpAny_sequenceKey ht.typeIs (by decide) ?_)
  refine wpAny_bind (wpAny_callSpecial?_slot ht.typeIs PyProof.Rows.slot_tuple_getitem (wpAny_call_entry PyProof.Rows.slot_tuple_getitem ht.typeIs PyProof.Rows.entry_tuple_getitem ?_ (PyProof.Rows.args_tuple_getitem _ _)))
  show wpAny _ _ (Builtin.Tuple.tupleItemsOf (.ref t) >>= _) _ _ s
  refine wpAny_bind (tupleItemsOf_ ht (wpAny_bind (wpAny_typeOf isSl ?_)))
  rw [if_pos (by decide)]
  refine wpAny_bind (cut_back hs pl pu ps ?_)
  have no : ¬ (((its.size : Int) - 1 == 0 && (-1 : Int) == 1 && its.size == its.size) = true) := by
    rw [show ((-1 : Int) == 1) = false from rfl, Bool.and_false, Bool.false_and]
    exact Bool.false_ne_true
  show wpAny _ _ (if ((its.size : Int) - 1 == 0 && (-1 : Int) == 1 && its.size == its.size) = true then _ else _) _ _ s
  rw [if_neg no, pick_back]
  exact wpAny_bind (m := Builtin.Tuple.tupleExact _) (wpAny_newObj_type (wpAny_pure ⟨_, rfl, wpAny_pure q⟩) fits)
end

section
variable {X : Cx} {e : Expr} {te : TE} {k : Nat} {p1 p2 p3 pos : Pos}
def tRevT (K : PySem.W.Frag) (te : TE) : TE := fun σ H Q => te σ H fun x G => ∃ a xs, x = .ref a ∧ SqT K G a xs ∧ ∀ p, G p = none → Q (.ref p) (upd G p (.tup xs.reverse))
theorem pe_revT (he : PE X e te) : PE X (.Subscript e (.Slice none none (some (.UnaryOp .USub (.Constant (.int 1) k p1) p2)) p3) pos) (tRevT X.K te) := by
  refine ⟨fun pins s σ H Q I told => Subscript_ (thn (he.run pins s σ H _ I told) ?_)⟩
  rintro v s1 ⟨x, H1, I1, rx, a, xs, rfl, hT, q⟩
  obtain rfl : v = Value.ref a := rx
  have back : PO X (some (.UnaryOp .USub (.Constant (.int 1) k p1) p2)) (tPart (tUn (rU fun i => .int (-i)) (tC (.int 1)))) := po_some (pe_un un_neg pe_int)
  refine wpAny_Slice (thn (po_none.run pins s1 σ H1 (fun o G => o = none ∧ G = H1) I1 ⟨rfl, rfl⟩) ?_)
  rintro vl s2 ⟨l, H2, I2, pl, rfl, rfl⟩
  refine thn (po_none.run pins s2 σ H2 (fun o G => o = none ∧ G = H2) I2 ⟨rfl, rfl⟩) ?_
  rintro vu s3 ⟨u, H3, I3, pu, rfl, rfl⟩
  refine thn (back.run pins s3 σ H3 (fun o G => o = some (-1) ∧ G = H3) I3 ⟨1, rfl, -1, rfl, rfl, rfl⟩) ?_
  rintro vs s4 ⟨o, H4, I4, ps, rfl, rfl⟩
  have I5 : Inv X pins σ H4 { s4 with heap := s4.heap.push { cls := .type "slice", data := .fields #[vl, vu, vs] } } := I4.kept (t' := s4.toks) (fun _ _ y => Heap.get?_push_of_some _ y)
  obtain ⟨its, rv, isT, room⟩ := I5.tuple hT
  have many := rv.length
  show wpAny _ _ (subscriptTail e _ (.ref a) (.ref s4.heap.objs.size)) _ _ { s4 with heap := s4.heap.push { cls := .type "slice", data := .fields #[vl, vu, vs] } }
  refine tail_any (ops := [.ref a, .ref s4.heap.objs.size]) isT.typeIs PyProof.Rows.slot_tuple_getitem.lookup ?_ (by with_unfolding_all rfl)
  refine get_back isT (Heap.IsSliceOf.new _ vl vu vs) pl pu ps ?_ (by rw [List.size_toArray]; omega)
  refine ⟨.ref _, _, I5.laid (t' := s4.toks) (o := .tup xs.reverse) (fun _ _ y => Heap.get?_push_of_some _ y) (Nat.le_refl _) ?_, rfl, q _ (I5.hok.fresh (Nat.le_refl _))⟩
  exact ⟨by rw [List.length_reverse]; exact room, its.reverse, rv.reverse, IsTup.new _ _⟩
end

end Kn


namespace Kn
open PySem PySem.Spec PyProof.Rows L2
abbrev nBent : List Str := ["_law_feed", "_law_item", "_law_k", "_law_way", "_law_strange_here"]
theorem scBent : FnScope nBent ["_law_feed", "_law_item"] (defScope (topS 24)) := ⟨rfl, rfl, rfl, by decide +kernel, rfl, by decide +kernel, by decide +kernel⟩
def spBent (K : PySem.W.Frag) (n : Nat) : Sp := fun vs H Q _ => ∃ (f a : Addr) (ns : List Int) (c : Nat) (v : V) (d : PyData), vs = [.ref f, v] ∧ Fd f a ns H c ∧ c + 10 * (n + 1) < 80000 ∧ Dp K H v d ∧ goodD d = true ∧ nodesD d ≤ 490 ∧ d.depth ≤ n ∧ n ≤ 40 ∧
  ∀ (r : V) (d' : PyData) (H' : Hp), Dp K H' r d' → goodD d' = true → nodesD d' ≤ 2 * nodesD d + 12 → d'.depth ≤ d.depth + 4 → Keep f H H' → Fd f a ns H' (c + 10 * (n + 1)) → Q r H'
def signD : List PyData := [.str "a", .str "A", .str " ", .str "z", .str "0", .str ","]
def signs : List Str := ["a", "A", " ", "z", "0", ","]
theorem signs_ok : ∀ x ∈ signs, asciiB x = true ∧ x.length = 1 := by
  have all : (signs.all fun x => asciiB x && decide (x.length = 1)) = true := by decide +kernel
  intro x hx
  obtain ⟨a, b⟩ := Bool.and_eq_true_iff.mp (List.all_eq_true.mp all x hx)
  exact ⟨a, of_decide_eq_true b⟩
theorem depth_tuple (ds : List PyData) : (PyData.tuple ds).depth = PyData.depthAll ds + 1 := rfl
theorem depth_list (ds : List PyData) : (PyData.list ds).depth = PyData.depthAll ds + 1 := rfl
section
variable {P : Program} {w : World} {K : PySem.W.Frag} {mg : Str → Option Value} {base : Heap}
theorem pss_step {X : Cx} {st : Stmt} {rest : List Stmt} {a : L2.TS} {D : Ends} {σ : L2.St} {H : Hp} (I : L2.St → Hp → Prop) (h1 : PS X st a) (tail : ∃ t, PSs X rest t ∧ ∀ σ' H', I σ' H' → t D σ' H') (main : ∀ t : L2.TS, (∀ σ' H', I σ' H' → t D σ' H') → tSeq a t D σ H) :
    ∃ t, PSs X (st :: rest) t ∧ t D σ H := by
  obtain ⟨t, ht, q⟩ := tail
  exact ⟨_, pss_cons h1 ht, main t q⟩
theorem ok_bent1 {g gD gA gS : Addr} {fd fdD fdA fdS : FuncData} (F : Fun K "_law_bent" "_law_bent" (topS 24) g fd) (b : Binds K fd ["_law_feed", "_law_item"] []) (m : mg "_law_bent" = some (.ref g))
    (FD : Fun K "_law_draw" "_law_draw" (topS 19) gD fdD) (bD : Binds K fdD ["_law_feed", "_law_many"] []) (mD : mg "_law_draw" = some (.ref gD)) (GD : FnOk P w K mg base CX0 1 gD fdD ["_law_feed", "_law_many"] spDraw)
    (FA : Fun K "_law_any" "_law_any" (topS 20) gA fdA) (bA : Binds K fdA ["_law_feed", "_law_some"] []) (mA : mg "_law_any" = some (.ref gA)) (GA : FnOk P w K mg base CX0 2 gA fdA ["_law_feed", "_law_some"] (spAny K))
    (FS : Fun K "_law_strange" "_law_strange" (topS 23) gS fdS) (bS : Binds K fdS ["_law_feed"] []) (mS : mg "_law_strange" = some (.ref gS)) (GS : FnOk P w K mg base CX0 3 gS fdS ["_law_feed"] (spStrange K))
    (mi : mg "int" = none) (ml : mg "len" = none) (mt : mg "tuple" = none) (ms : mg "isinstance" = none) (mz : mg "str" = none) (mli : mg "list" = none) (n : Nat)
    (rec : ∀ j, j < n → FnOk P w K mg base CX0 (j + 4) g fd ["_law_feed", "_law_item"] (spBent K j)) : FnOk P w K mg base CX0 (n + 4) g fd ["_law_feed", "_law_item"] (spBent K n) := by
  have R : FnOk P w K mg base CX0 (n + 3) g fd ["_law_feed", "_law_item"] (fun vs H Q E => ∃ j, j < n ∧ spBent K j vs H Q E) :=
    ⟨fun vs H Q E ⟨j, l, h⟩ => (rec j l).len vs H Q E h, fun A outer s H args us vs Q E hr e bb v ⟨j, l, h⟩ => (rec j l).run A outer s H args us vs Q E (hr.mono (by omega)) e bb v h⟩
  refine F.ok scBent (fun vs H Q E h => ?_) (fun cdv A outer s H vs Q E hr h => ?_)
  · obtain ⟨f, a, ns, c, v, d, rfl, _⟩ := h
    rfl
  · obtain ⟨f, a, ns, c, v, d, rfl, fd0, hc, hd, gd, sm, hn, hn40, q⟩ := h
    have hr1 : Room 1 _ := hr.mono (by omega)
    have hr2 : Room 2 _ := hr.mono (by omega)
    have hr3 : Room 3 _ := hr.mono (by omega)
    refine pss_step (fun σ' G => σ' = [some (.ref f), some v, none, none, none] ∧ Keep f H G ∧ Fd f a ns G (c + 1)) (ps_if (PW.pt (pw_and (pt_val (pe_callB call_isi (by rfl) ms boot_isinstance (pa_cons (pv 1) (pa_cons (pe_bltn (v := .ty "tuple") (by rfl) mt (by decide +kernel) rfl) pa_nil))))
          (pw_and (pt_cmpR op_gt (pe_callB call_len_seq (by rfl) ml PySem.boot_len (pa_cons (pv 1) pa_nil)) pe_int (nomark _)) (pw_and1 (pt_cmpR op_gt (pe_call GD hr1 (by rfl) mD FD.kp bD .nil pass0 (pa_cons (pv 0) (pa_cons pe_int pa_nil))) pe_int (nomark _))))))
        (pss_cons (ps_set (i := 2) scBent.nd rfl (.inl rfl) (pe_call GD hr1 (by rfl) mD FD.kp bD .nil pass0 (pa_cons (pv 0) (pa_cons (pe_callB call_len_seq (by rfl) ml PySem.boot_len (pa_cons (pv 1) pa_nil)) pa_nil))))
        (pss_one (ps_ret (pe_op op_catA (pe_op op_catA (pe_slice sl_tupA (pv 1) po_none (po_some (pv 2))) (pe_tup (pa_cons (pe_call R hr (by rfl) m F.kp b .nil pass0 (pa_cons (pv 0) (pa_cons (pe_ix ix_tup (pv 1) (pv 2) (fun _ _ => rfl)) pa_nil))) pa_nil)))
          (pe_slice sl_tupA (pv 1) (po_some (pe_op op_add (pv 2) pe_int)) po_none))))) pss_nil) ⟨_, (pss_cons (ps_par (i := 3) (j := 4) (by rfl) scBent.nd rfl rfl (by decide) rfl rfl (pa_cons (pe_call GD hr1 (by rfl) mD FD.kp bD .nil pass0 (pa_cons (pv 0) (pa_cons pe_int pa_nil))) (pa_cons (pe_call GS hr3 (by rfl) mS FS.kp bS .nil pass0 (pa_cons (pv 0) pa_nil)) pa_nil)) (by rfl))
      (pss_cons (ps_if (PW.pt (pw_and (pt_val (pe_callB call_isi (by rfl) ms boot_isinstance (pa_cons (pv 1) (pa_cons (pe_bltn (v := .ty "tuple") (by rfl) mt (by decide +kernel) rfl) pa_nil)))) (pw_and1 (pt_cmpR op_lt (pv 3) pe_int (nomark _)))))
        (pss_cons (ps_set (i := 2) scBent.nd rfl (.inl rfl) (pe_call GD hr1 (by rfl) mD FD.kp bD .nil pass0 (pa_cons (pv 0) (pa_cons (pe_op op_add (pe_callB call_len_seq (by rfl) ml PySem.boot_len (pa_cons (pv 1) pa_nil)) pe_int) pa_nil))))
        (pss_cons (ps_if (pt_cmpR op_eq (pv 3) pe_int (nomark _)) (pss_one (ps_ret (pe_callTy call_list_of (by rfl) mli (by decide +kernel) (pa_cons (pv 1) pa_nil)))) pss_nil)
        (pss_cons (ps_if (pt_cmpR op_eq (pv 3) pe_int (nomark _)) (pss_one (ps_ret (pe_op op_catA (pe_slice sl_tupA (pv 1) po_none (po_some (pv 2))) (pe_slice sl_tupA (pv 1) (po_some (pe_op op_add (pv 2) pe_int)) po_none)))) pss_nil)
        (pss_cons (ps_if (pt_cmpR op_eq (pv 3) pe_int (nomark _)) (pss_one (ps_ret (pe_op op_catA (pe_op op_catA (pe_slice sl_tupA (pv 1) po_none (po_some (pv 2))) (pe_slice sl_tupA (pv 1) (po_some (pv 2)) (po_some (pe_op op_add (pv 2) pe_int)))) (pe_slice sl_tupA (pv 1) (po_some (pv 2)) po_none)))) pss_nil)
        (pss_one (ps_ret (pe_ifExp (pt_cmpR op_lt (pv 3) pe_int (nomark _)) (pe_op op_catA (pe_op op_catA (pe_slice sl_tupA (pv 1) po_none (po_some (pv 2))) (pe_tup (pa_cons (pv 4) pa_nil))) (pe_slice sl_tupA (pv 1) (po_some (pv 2)) po_none)) (pe_revT (pv 1))))))))) pss_nil)
      (pss_cons (ps_if (PW.pt (pw_and (pt_val (pe_callB call_isi (by rfl) ms boot_isinstance (pa_cons (pv 1) (pa_cons (pe_bltn (v := .ty "str") (by rfl) mz (by decide +kernel) rfl) pa_nil)))) (pw_and1 (pt_cmpR op_lt (pv 3) pe_int (nomark _)))))
        (pss_cons (ps_set (i := 2) scBent.nd rfl (.inl rfl) (pe_call GD hr1 (by rfl) mD FD.kp bD .nil pass0 (pa_cons (pv 0) (pa_cons (pe_op op_add (pe_callB call_len_str (by rfl) ml PySem.boot_len (pa_cons (pv 1) pa_nil)) pe_int) pa_nil))))
        (pss_one (ps_ret (pe_op op_add_str (pe_op op_add_str (pe_slice sl_str (pv 1) po_none (po_some (pv 2))) (pe_call GA hr2 (by rfl) mA FA.kp bA .nil pass0 (pa_cons (pv 0) (pa_cons (pe_lst (pa_cons pe_str (pa_cons pe_str (pa_cons pe_str (pa_cons pe_str (pa_cons pe_str (pa_cons pe_str pa_nil))))))) pa_nil))))
          (pe_slice sl_str (pv 1) (po_some (pe_op op_add (pv 2) (pe_callTy call_int1 (by rfl) mi boot_int (pa_cons (pe_cmpR op_gt (pv 3) pe_int (nomark _)) pa_nil)))) po_none))))) pss_nil)
      (pss_one (ps_ret (pv 4)))))), ?_⟩ ?_
    · rintro σ' G ⟨rfl, kG, fdG⟩
      have hdG := dFd fd0 kG hd
      refine ⟨.ref f, rfl, f, a, ns, c + 1, 8, rfl, by decide, by decide, fdG, by omega, fun w1 G1 w0 w8 k1 fd1 => ⟨.ref f, rfl, f, a, ns, c + 2, rfl, fd1, by omega, fun sv sd G2 hs dps k2 fd2 => ⟨_, _, rfl, ?_⟩⟩⟩
      have hd2 := dFd fd1 k2 (dFd fdG k1 hdG)
      have kk := (kG.trans k1).trans k2
      obtain ⟨o1, o2, o3⟩ := strange_ok sd hs
      have odd : ∀ (J : Hp) (c' : Nat), Keep f G2 J → Fd f a ns J c' → c' ≤ c + 10 → Q sv J := fun J c' kJ fJ lc => q sv sd J (dFd fd2 kJ dps) o1 (by omega) (by omega) (kk.trans kJ) (fJ.more (by omega))
      have none : tupB d = false → strB d = false ∨ True → True := fun _ _ => trivial
      clear none
      cases hd with
      | tup ht hds =>
        rename_i p xs ds
        have gds : goodDs ds = true := gd
        have sm' : 1 + nodesDs ds ≤ 490 := sm
        have lds := nodes_len ds
        have tm : Tm (nodesDs ds) (PyData.depthAll ds) ds := ⟨gds, Nat.le_refl _, Nat.le_refl _⟩
        have fin : ∀ (es : List PyData) (r : V) (J : Hp) (c' : Nat), Dp K J r (.tuple es) → Tm (2 * nodesDs ds + 13) (PyData.depthAll ds + 4) es → Keep f G2 J → Fd f a ns J c' → c' ≤ c + 10 → Q r J := fun es r J c' h t kJ fJ lc => by
          refine q r _ J h t.g ?_ ?_ (kk.trans kJ) (fJ.more (by omega))
          · show 1 + nodesDs es ≤ 2 * (1 + nodesDs ds) + 12
            have := t.n
            omega
          · rw [depth_tuple, depth_tuple]
            have := t.d
            omega
        refine ⟨.ref p, rfl, .ref p, .ty "tuple", _, _, _, rfl, .ty "tuple", ty_of hd2, kit_tup, _, rfl, iteT ⟨_, rfl, w1, 6, rfl, rfl, _, rfl, ite2 (fun _ => ?_) (fun _ => ?_)⟩⟩
        · obtain ⟨ht2, hds2⟩ : (∃ xs2, SqT K G2 p xs2 ∧ DpAll K G2 xs2 ds) ∧ True := by
            cases hd2 with
            | tup a b => exact ⟨⟨_, a, b⟩, trivial⟩
          obtain ⟨xs2, ht2, hds2⟩ := ht2
          have l2 : xs2.length = ds.length := dsLen hds2
          refine ⟨.ref f, rfl, .ref p, rfl, p, xs2, rfl, .inr ht2, _, 1, rfl, rfl, f, a, ns, c + 3, (xs2.length : Int) + 1, rfl, by omega, by omega, fd2, by omega, fun k J k0 kl k3 fd3 => ?_⟩
          obtain ⟨j, rfl⟩ := Int.eq_ofNat_of_zero_le k0
          have hj : j ≤ ds.length := by omega
          have hJ := dFd fd2 k3 hd2
          have full : ∀ {n' k' : Nat} {es : List PyData}, Tm n' k' es → n' ≤ 2 * nodesDs ds + 13 → k' ≤ PyData.depthAll ds + 4 → Tm (2 * nodesDs ds + 13) (PyData.depthAll ds + 4) es := fun t a b => t.mono a b
          obtain ⟨x, y, xy, tx, ty⟩ := tm.cut j
          refine ⟨_, rfl, rfl, _, rfl, ite2 (fun _ => ?_) (fun _ => ?_)⟩
          · -- a list of the items
            obtain ⟨xs3, ht3, hds3⟩ : ∃ xs3, SqT K J p xs3 ∧ DpAll K J xs3 ds := by
              cases hJ with
              | tup a b => exact ⟨_, a, b⟩
            refine ⟨.ref p, rfl, p, xs3, rfl, .inr ht3, fun l nl => ?_⟩
            have sl := same_new (o := .lst xs3) nl
            refine q (.ref l) (.list ds) _ (.lst (.inl (.inl upd_same)) (dsKeep sl hds3)) gds ?_ ?_ ((kk.trans k3).trans (keep_same sl)) ((fd3.same sl).more (by omega))
            · show 1 + nodesDs ds ≤ 2 * (1 + nodesDs ds) + 12
              omega
            · rw [depth_list, depth_tuple]
              omega
          refine ⟨_, rfl, rfl, _, rfl, ite2 (fun _ => ?_) (fun _ => ?_)⟩
          · -- one less
            refine ⟨.ref p, rfl, _, rfl, j, rfl, slA_take hJ hj fun r1 J1 s1 d1 => ?_⟩
            have hJ1 := dKeep s1 hJ
            refine ⟨.ref p, rfl, _, rfl, j, 1, rfl, rfl, _, rfl, ?_⟩
            dsimp only [tNoPart]
            refine slA_drop (k := j + 1) hJ1 fun r2 J2 s2 d2 => ?_
            refine catA (dKeep s2 d1) d2 (by rw [List.length_take, List.length_drop]; omega) fun r3 J3 s3 d3 => ?_
            have sA := (s1.trans s2).trans s3
            refine fin _ r3 J3 _ d3 (full (n' := x + y) (tx.app ?_) (by omega) (by omega)) (k3.trans (keep_same sA)) (fd3.same sA) (by omega)
            have e : ds.drop (j + 1) = (ds.drop j).drop 1 := by rw [List.drop_drop]
            rw [e]
            exact ty.drop 1
          refine ⟨_, rfl, rfl, _, rfl, ite2 (fun _ => ?_) (fun _ => ?_)⟩
          · -- one twice
            refine ⟨.ref p, rfl, _, rfl, j, rfl, slA_take hJ hj fun r1 J1 s1 d1 => ?_⟩
            have hJ1 := dKeep s1 hJ
            refine ⟨.ref p, rfl, _, rfl, j, rfl, _, rfl, j, 1, rfl, rfl, _, rfl, ?_⟩
            dsimp only [tNoPart]
            refine slA_mid (i := j) (j := j + 1) hJ1 fun r2 J2 s2 d2 => ?_
            refine catA (dKeep s2 d1) d2 (by rw [List.length_take, List.length_take, List.length_drop]; omega) fun r3 J3 s3 d3 => ?_
            have sA := (s1.trans s2).trans s3
            refine ⟨.ref p, rfl, _, rfl, j, rfl, ?_⟩
            dsimp only [tNoPart]
            refine slA_drop (dKeep sA hJ) fun r4 J4 s4 d4 => ?_
            refine catA (dKeep s4 d3) d4 (by rw [List.length_append, List.length_take, List.length_take, List.length_drop, List.length_drop]; omega) fun r5 J5 s5 d5 => ?_
            have sB := (sA.trans s4).trans s5
            exact fin _ r5 J5 _ d5 (full ((tx.app ((tm.drop _).take _)).app ty) (by omega) (by omega)) (k3.trans (keep_same sB)) (fd3.same sB) (by omega)
          refine ⟨_, rfl, w1, 5, rfl, rfl, _, rfl, ite2 (fun _ => ?_) (fun _ => ?_)⟩
          · -- something put in
            refine ⟨.ref p, rfl, _, rfl, j, rfl, slA_take hJ hj fun r1 J1 s1 d1 => ?_⟩
            refine ⟨sv, rfl, (show 1 ≤ sizeLine by decide), fun t nt => ?_⟩
            have st := same_new (o := .tup [sv]) nt
            have dt : Dp K (upd J1 t (.tup [sv])) (.ref t) (.tuple [sd]) := .tup (.inl (.inl upd_same)) (.cons (dKeep st (dKeep s1 (dFd fd2 k3 dps))) .nil)
            refine catA (dKeep st d1) dt (by rw [List.length_take]; show _ + 1 ≤ 1000; omega) fun r3 J3 s3 d3 => ?_
            have sA := (s1.trans st).trans s3
            refine ⟨.ref p, rfl, _, rfl, j, rfl, ?_⟩
            dsimp only [tNoPart]
            refine slA_drop (dKeep sA hJ) fun r4 J4 s4 d4 => ?_
            refine catA (dKeep s4 d3) d4 (by rw [List.length_append, List.length_take, List.length_drop]; show _ + 1 + _ ≤ 1000; omega) fun r5 J5 s5 d5 => ?_
            have sB := (sA.trans s4).trans s5
            have t1 : Tm 10 (PyData.depthAll ds + 4) [sd] := Tm.one o1 o2 (by omega)
            exact fin _ r5 J5 _ d5 (full (((tx.mono (Nat.le_refl _) (by omega)).app t1).app (ty.mono (Nat.le_refl _) (by omega))) (by omega) (Nat.le_refl _)) (k3.trans (keep_same sB)) (fd3.same sB) (by omega)
          · -- the other way about
            obtain ⟨xs3, ht3, hds3⟩ : ∃ xs3, SqT K J p xs3 ∧ DpAll K J xs3 ds := by
              cases hJ with
              | tup a b => exact ⟨_, a, b⟩
            refine ⟨.ref p, rfl, p, xs3, rfl, ht3, fun t nt => ?_⟩
            have st := same_new (o := .tup xs3.reverse) nt
            exact fin ds.reverse (.ref t) _ _ (.tup (.inl (.inl upd_same)) (dsKeep st (dsRev hds3))) (full tm.rev (by omega) (by omega)) (k3.trans (keep_same st)) (fd3.same st) (by omega)
        · exact ⟨.ref p, rfl, .ref p, .ty "str", _, _, _, rfl, .ty "str", ty_of hd2, kit_str, _, rfl, iteF (iteF ⟨_, rfl, odd G2 _ (Keep.refl f G2) fd2 (by omega)⟩)⟩
      | str z =>
        have gz : asciiB z = true := gd
        have sz : 1 + z.length ≤ 490 := sm
        have lz : z.length ≤ sizeLine := Nat.le_trans (show z.length ≤ 490 by omega) (by decide)
        refine ⟨_, rfl, _, .ty "tuple", _, _, _, rfl, .ty "tuple", ty_of hd2, kit_tup, _, rfl, iteF (iteF ⟨_, rfl, _, .ty "str", _, _, _, rfl, .ty "str", ty_of hd2, kit_str, _, rfl, iteT ⟨_, rfl, w1, 5, rfl, rfl, _, rfl, ite2 (fun _ => ?_) (fun _ => ⟨_, rfl, odd G2 _ (Keep.refl f G2) fd2 (by omega)⟩)⟩⟩)⟩
        refine ⟨.ref f, rfl, .str z, rfl, z, rfl, lz, _, 1, rfl, rfl, f, a, ns, c + 3, (z.length : Int) + 1, rfl, by omega, by omega, fd2, by omega, fun k J k0 kl k3 fd3 => ?_⟩
        obtain ⟨j, rfl⟩ := Int.eq_ofNat_of_zero_le k0
        refine ⟨.str z, rfl, _, rfl, j, rfl, z, rfl, lz, .ref f, rfl, (show 6 ≤ sizeLine by decide), fun pl npl => ?_⟩
        have sl := same_new (o := .lst (signs.map V.str)) npl
        refine ⟨f, a, pl, ns, c + 4, signs.map V.str, rfl, fd3.same sl, by omega, .inl (.inl upd_same), (show 0 < 6 by decide), (show 6 ≤ 1000 by decide), fun x J2 hx k4 fd4 => ?_⟩
        obtain ⟨ch, hch, rfl⟩ := List.mem_map.mp hx
        obtain ⟨g1, l1⟩ := signs_ok ch hch
        have c1 := cutS_length z Option.none (some (j : Int))
        have big : 1000 ≤ sizeLine := by decide
        refine ⟨_, _, rfl, rfl, by omega, .str z, rfl, _, rfl, _, rfl, w1, 2, rfl, rfl, .inr ⟨_, rfl, j, _, rfl, rfl, _, rfl, z, rfl, lz, _, _, rfl, rfl, ?_, ?_⟩⟩
        · refine Nat.le_trans (Nat.add_le_add (Nat.le_of_eq (slen_app _ _)) (cutS_length z _ _)) ?_
          omega
        · refine q _ (.str _) _ (.str _) (ascii_app (ascii_app (ascii_cut gz _ _) g1) (ascii_cut gz _ _)) ?_ ?_ ((kk.trans k3).trans ((keep_same sl).trans k4)) (fd4.more (by omega))
          · refine Nat.le_trans (Nat.add_le_add_left (Nat.le_trans (Nat.le_of_eq (slen_app _ _)) (Nat.add_le_add (Nat.le_of_eq (slen_app _ _)) (cutS_length z _ _))) 1) ?_
            show _ ≤ 2 * (1 + z.length) + 12
            omega
          · exact Nat.zero_le _
      | non => exact ⟨_, rfl, _, .ty "tuple", _, _, _, rfl, .ty "tuple", ty_of hd2, kit_tup, _, rfl, iteF (iteF ⟨_, rfl, _, .ty "str", _, _, _, rfl, .ty "str", ty_of hd2, kit_str, _, rfl, iteF (iteF ⟨_, rfl, odd G2 _ (Keep.refl f G2) fd2 (by omega)⟩)⟩)⟩
      | bl b => exact ⟨_, rfl, _, .ty "tuple", _, _, _, rfl, .ty "tuple", ty_of hd2, kit_tup, _, rfl, iteF (iteF ⟨_, rfl, _, .ty "str", _, _, _, rfl, .ty "str", ty_of hd2, kit_str, _, rfl, iteF (iteF ⟨_, rfl, odd G2 _ (Keep.refl f G2) fd2 (by omega)⟩)⟩)⟩
      | int b => exact ⟨_, rfl, _, .ty "tuple", _, _, _, rfl, .ty "tuple", ty_of hd2, kit_tup, _, rfl, iteF (iteF ⟨_, rfl, _, .ty "str", _, _, _, rfl, .ty "str", ty_of hd2, kit_str, _, rfl, iteF (iteF ⟨_, rfl, odd G2 _ (Keep.refl f G2) fd2 (by omega)⟩)⟩)⟩
      | lst b b' => exact ⟨_, rfl, _, .ty "tuple", _, _, _, rfl, .ty "tuple", ty_of hd2, kit_tup, _, rfl, iteF (iteF ⟨_, rfl, _, .ty "str", _, _, _, rfl, .ty "str", ty_of hd2, kit_str, _, rfl, iteF (iteF ⟨_, rfl, odd G2 _ (Keep.refl f G2) fd2 (by omega)⟩)⟩)⟩
    · intro tl run
      have next : ∀ G, Keep f H G → Fd f a ns G (c + 1) → _ := fun G k fdG => run _ G ⟨rfl, k, fdG⟩
      cases hd with
      | tup ht hds =>
        rename_i p xs ds
        have hd' : Dp K H (.ref p) (.tuple ds) := .tup ht hds
        have gds : goodDs ds = true := gd
        have sm' : 1 + nodesDs ds ≤ 490 := sm
        have hn' : PyData.depthAll ds + 1 ≤ n := hn
        have lds := nodes_len ds
        have lx : xs.length = ds.length := dsLen hds
        have tm : Tm (nodesDs ds) (PyData.depthAll ds) ds := ⟨gds, Nat.le_refl _, Nat.le_refl _⟩
        refine ⟨.ref p, rfl, .ref p, .ty "tuple", _, _, _, rfl, .ty "tuple", ty_of hd', kit_tup, _, rfl, iteT ⟨.ref p, rfl, p, xs, rfl, .inr ht, _, _, rfl, rfl, _, rfl, ?_⟩⟩
        by_cases pos : 0 < ds.length
        · rw [decide_eq_true (show ((xs.length : Nat) : Int) > 0 by omega)]
          refine iteT ⟨.ref f, rfl, f, a, ns, c, 4, rfl, by decide, by decide, fd0, by omega, fun r G r0 r1 k1 fd1 => ⟨_, _, rfl, rfl, _, rfl, ite2 (fun _ => ?_) (fun _ => next G k1 fd1)⟩⟩
          have hd1 := dFd fd0 k1 hd'
          have ht1 : SqT K G p xs := tupT (ts_fd fd0 k1) ht
          refine ⟨.ref f, rfl, .ref p, rfl, p, xs, rfl, .inr ht1, f, a, ns, c + 1, (xs.length : Int), rfl, by omega, by omega, fd1, by omega, fun k G2 k0 kl k2 fd2 => ?_⟩
          obtain ⟨j, rfl⟩ := Int.eq_ofNat_of_zero_le k0
          have hj : j < ds.length := by omega
          have hd2 := dFd fd1 k2 hd1
          have ht2 : SqT K G2 p xs := tupT (ts_fd fd1 k2) ht1
          have hds2 := dsFd fd1 k2 (dsFd fd0 k1 hds)
          refine ⟨.ref p, rfl, _, rfl, j, rfl, slA_take hd2 (Nat.le_of_lt hj) fun r1 G3 s3 d3 => ?_⟩
          have hxj : xs[j]? = some (xs[j]'(by omega)) := List.getElem?_eq_getElem (by omega)
          obtain ⟨dj, hdj, dpj⟩ := dsAt (dsKeep s3 hds2) j _ hxj
          obtain ⟨gj, nj, kj⟩ := tm.get hdj
          refine ⟨.ref f, rfl, .ref p, rfl, _, rfl, p, xs, j, _, rfl, rfl, sameDp s3 ht2, atI_nat hxj, n - 1, by omega, f, a, ns, c + 2, _, dj, rfl, fd2.same s3, by omega, dpj, gj, by omega, by omega, by omega, fun r2 d2 G4 dp2 g2 n2 q2 k4 fd4 => ⟨(show 1 ≤ sizeLine by decide), fun t nt => ?_⟩⟩
          have st := same_new (o := .tup [r2]) nt
          have dt : Dp K (upd G4 t (.tup [r2])) (.ref t) (.tuple [d2]) := .tup (.inl (.inl upd_same)) (.cons (dKeep st dp2) .nil)
          have fd3 := fd2.same s3
          refine catA (dKeep st (dFd fd3 k4 d3)) dt (by rw [List.length_take]; show _ + 1 ≤ 1000; omega) fun r5 G5 s5 d5 => ?_
          refine ⟨.ref p, rfl, _, rfl, j, 1, rfl, rfl, _, rfl, ?_⟩
          dsimp only [tNoPart]
          refine slA_drop (k := j + 1) (dKeep s5 (dKeep st (dFd fd3 k4 (dKeep s3 hd2)))) fun r6 G6 s6 d6 => ?_
          refine catA (dKeep s6 d5) d6 (by rw [List.length_append, List.length_take, List.length_drop]; show _ + 1 + _ ≤ 1000; omega) fun r7 G7 s7 d7 => ?_
          have sB := ((st.trans s5).trans s6).trans s7
          obtain ⟨x, y, xy, tx, ty⟩ := tm.cut j
          have e : ds.drop j = dj :: ds.drop (j + 1) := by
            obtain ⟨hl, e⟩ := List.getElem?_eq_some_iff.mp hdj
            rw [List.drop_eq_getElem_cons hl, e]
          rw [e] at ty
          obtain ⟨u, w, uw, tu, tw⟩ := Tm.split (a := [dj]) (b := ds.drop (j + 1)) ty
          have nu := tu.n
          have nu : nodesD dj + 0 ≤ u := nu
          have tj : Tm (2 * u + 12) (PyData.depthAll ds + 4) [d2] := Tm.one g2 (by omega) (by omega)
          have tA := ((tx.mono (Nat.le_refl _) (show PyData.depthAll ds ≤ PyData.depthAll ds + 4 by omega)).app tj).app (tw.mono (Nat.le_refl _) (by omega))
          refine q r7 _ G7 d7 tA.g ?_ ?_ (((((k1.trans k2).trans (keep_same s3)).trans k4)).trans (keep_same sB)) ((fd4.same sB).more (by omega))
          · show 1 + nodesDs _ ≤ 2 * (1 + nodesDs ds) + 12
            have := tA.n
            omega
          · rw [depth_tuple, depth_tuple]
            have := tA.d
            omega
        · rw [decide_eq_false (show ¬ ((xs.length : Nat) : Int) > 0 by omega)]
          exact iteF (iteF (next H (Keep.refl f H) (fd0.more (by omega))))
      | str z => exact ⟨_, rfl, _, .ty "tuple", _, _, _, rfl, .ty "tuple", ty_of (.str z), kit_tup, _, rfl, iteF (iteF (next H (Keep.refl f H) (fd0.more (by omega))))⟩
      | non => exact ⟨_, rfl, _, .ty "tuple", _, _, _, rfl, .ty "tuple", ty_of .non, kit_tup, _, rfl, iteF (iteF (next H (Keep.refl f H) (fd0.more (by omega))))⟩
      | bl b => exact ⟨_, rfl, _, .ty "tuple", _, _, _, rfl, .ty "tuple", ty_of (.bl b), kit_tup, _, rfl, iteF (iteF (next H (Keep.refl f H) (fd0.more (by omega))))⟩
      | int b => exact ⟨_, rfl, _, .ty "tuple", _, _, _, rfl, .ty "tuple", ty_of (.int b), kit_tup, _, rfl, iteF (iteF (next H (Keep.refl f H) (fd0.more (by omega))))⟩
      | lst b b' => exact ⟨_, rfl, _, .ty "tuple", _, _, _, rfl, .ty "tuple", ty_of (.lst b b'), kit_tup, _, rfl, iteF (iteF (next H (Keep.refl f H) (fd0.more (by omega))))⟩
theorem ok_bent {g gD gA gS : Addr} {fd fdD fdA fdS : FuncData} (F : Fun K "_law_bent" "_law_bent" (topS 24) g fd) (b : Binds K fd ["_law_feed", "_law_item"] []) (m : mg "_law_bent" = some (.ref g))
    (FD : Fun K "_law_draw" "_law_draw" (topS 19) gD fdD) (bD : Binds K fdD ["_law_feed", "_law_many"] []) (mD : mg "_law_draw" = some (.ref gD)) (GD : FnOk P w K mg base CX0 1 gD fdD ["_law_feed", "_law_many"] spDraw)
    (FA : Fun K "_law_any" "_law_any" (topS 20) gA fdA) (bA : Binds K fdA ["_law_feed", "_law_some"] []) (mA : mg "_law_any" = some (.ref gA)) (GA : FnOk P w K mg base CX0 2 gA fdA ["_law_feed", "_law_some"] (spAny K))
    (FS : Fun K "_law_strange" "_law_strange" (topS 23) gS fdS) (bS : Binds K fdS ["_law_feed"] []) (mS : mg "_law_strange" = some (.ref gS)) (GS : FnOk P w K mg base CX0 3 gS fdS ["_law_feed"] (spStrange K))
    (mi : mg "int" = none) (ml : mg "len" = none) (mt : mg "tuple" = none) (ms : mg "isinstance" = none) (mz : mg "str" = none) (mli : mg "list" = none) (n : Nat) : FnOk P w K mg base CX0 (n + 4) g fd ["_law_feed", "_law_item"] (spBent K n) := by
  induction n using Nat.strongRecOn with
  | ind n ih => exact ok_bent1 F b m FD bD mD GD FA bA mA GA FS bS mS GS mi ml mt ms mz mli n ih
end
end Kn


/-! Kn: names, tables, kinds among any data. -/
namespace Kn
open PySem PySem.Spec PyProof.Rows L2
def lowB (x : Str) : Bool := x.cps.toList.all fun c => decide (97 ≤ c ∧ c ≤ 122)
def nameB : PyData → Bool
  | .str x => decide (1 ≤ x.length) && decide (x.length ≤ 8) && lowB x
  | _ => false
def ltD : PyData → PyData → Bool
  | .str x, .str y => decide (x.cps.toList < y.cps.toList)
  | _, _ => false
/-- the k-th is a name, and behind the one ahead of it -/
def okAt (ds : List PyData) (k : Nat) : Bool := nameB (ds.getD k .none) && (k == 0 || ltD (ds.getD (k - 1) .none) (ds.getD k .none))
def rowB : PyData → Bool
  | .tuple ds => (List.range ds.length).all (okAt ds)
  | _ => false
def kindB : PyData → Bool
  | .tuple [n, f, h, t] => nameB n && posB f && boolB h && rowB t
  | _ => false
def part (d : PyData) (k : Nat) : PyData := match d with
  | .tuple ds => ds.getD k .none
  | _ => .none
/-- the k-th is a kind, and behind the one ahead of it -/
def kindAt (ds : List PyData) (k : Nat) : Bool := kindB (ds.getD k .none) && (k == 0 || ltD (part (ds.getD (k - 1) .none) 0) (part (ds.getD k .none) 0))
theorem sign_facts : ∀ c : Nat, c < 128 → (Unicode.isAlpha c = (Unicode.isLower c || Unicode.isUpper c)) ∧ Unicode.isTitle c = false ∧ Unicode.isLower c = decide (97 ≤ c ∧ c ≤ 122) ∧ (Unicode.isLower c = true → Unicode.isUpper c = false) := by
  have all : ((List.range 128).all fun c => decide (Unicode.isAlpha c = (Unicode.isLower c || Unicode.isUpper c)) && decide (Unicode.isTitle c = false) && decide (Unicode.isLower c = decide (97 ≤ c ∧ c ≤ 122)) && (!Unicode.isLower c || !Unicode.isUpper c)) = true := by decide +kernel
  intro c hc
  have q := List.all_eq_true.mp all c (List.mem_range.mpr hc)
  obtain ⟨q, q4⟩ := Bool.and_eq_true_iff.mp q
  obtain ⟨q, q3⟩ := Bool.and_eq_true_iff.mp q
  obtain ⟨q1, q2⟩ := Bool.and_eq_true_iff.mp q
  refine ⟨of_decide_eq_true q1, of_decide_eq_true q2, of_decide_eq_true q3, fun z => ?_⟩
  rw [z] at q4
  simpa using q4
theorem low_is {x : Str} (h : (x.cps.toList.all fun c => decide (c < 128)) = true) : (Txt.isalpha x && Txt.islower x) = (decide (1 ≤ x.length) && lowB x) := by
  have e1 : Txt.isalpha x = (decide (x.length > 0) && x.cps.toList.all Unicode.isAlpha) := by
    show (decide (x.length > 0) && x.cps.all Unicode.isAlpha) = _
    rw [← Array.all_toList]
  have e2 : Txt.islower x = (x.cps.toList.any Unicode.isLower && !x.cps.toList.any fun c => Unicode.isUpper c || Unicode.isTitle c) := by
    show (x.cps.any Unicode.isLower && !x.cps.any fun c => Unicode.isUpper c || Unicode.isTitle c) = _
    rw [← Array.any_toList, ← Array.any_toList]
  have el : x.length = x.cps.toList.length := by
    show x.cps.size = _
    rw [← Array.length_toList]
  rw [e1, e2, el]
  unfold lowB
  generalize x.cps.toList = l at h
  have all : ∀ l : List Nat, (l.all fun c => decide (c < 128)) = true → (l.all Unicode.isAlpha && !l.any fun c => Unicode.isUpper c || Unicode.isTitle c) = l.all fun c => decide (97 ≤ c ∧ c ≤ 122) := by
    intro l
    induction l with
    | nil => exact fun _ => rfl
    | cons c r ih =>
      intro h
      obtain ⟨h1, h2⟩ := Bool.and_eq_true_iff.mp (show (decide (c < 128) && r.all fun c => decide (c < 128)) = true from h)
      obtain ⟨f1, f2, f3, f4⟩ := sign_facts c (of_decide_eq_true h1)
      have ih := ih h2
      show ((Unicode.isAlpha c && r.all Unicode.isAlpha) && !((Unicode.isUpper c || Unicode.isTitle c) || r.any fun c => Unicode.isUpper c || Unicode.isTitle c)) = (decide (97 ≤ c ∧ c ≤ 122) && r.all fun c => decide (97 ≤ c ∧ c ≤ 122))
      rw [← ih, ← f3, f1, f2]
      revert f4
      cases Unicode.isLower c <;> cases Unicode.isUpper c <;> cases r.all Unicode.isAlpha <;> cases (r.any fun c => Unicode.isUpper c || Unicode.isTitle c) <;> simp
  cases l with
  | nil => rfl
  | cons c r =>
    have q := all (c :: r) h
    rw [← q]
    have pos : decide ((c :: r).length > 0) = true := decide_eq_true (Nat.succ_pos _)
    have pos2 : decide (1 ≤ (c :: r).length) = true := decide_eq_true (Nat.succ_pos _)
    rw [pos, pos2, Bool.true_and, Bool.true_and]
    obtain ⟨h1, h2⟩ := Bool.and_eq_true_iff.mp (show (decide (c < 128) && r.all fun c => decide (c < 128)) = true from h)
    obtain ⟨f1, f2, f3, f4⟩ := sign_facts c (of_decide_eq_true h1)
    show ((Unicode.isAlpha c && r.all Unicode.isAlpha) && ((Unicode.isLower c || r.any Unicode.isLower) && !((Unicode.isUpper c || Unicode.isTitle c) || r.any fun c => Unicode.isUpper c || Unicode.isTitle c))) = ((Unicode.isAlpha c && r.all Unicode.isAlpha) && !((Unicode.isUpper c || Unicode.isTitle c) || r.any fun c => Unicode.isUpper c || Unicode.isTitle c))
    rw [f1, f2]
    cases Unicode.isLower c <;> cases Unicode.isUpper c <;> cases r.all Unicode.isAlpha <;> cases (r.any fun c => Unicode.isUpper c || Unicode.isTitle c) <;> simp
end Kn


/-! En: enumerate(t), t a tuple. -/
namespace En
open PySem PySem.Spec PyProof.Rows L2
open AutoSeq1 (wpAny_loadPart')
theorem made_tup (t : Addr) (xs : Array Value) (n : Nat) (dct : Option Addr) (sl : Array (Option Value)) :
    Meets (Builtin.«enumerate.__new__» ⟨[.type "enumerate", .ref t], []⟩) (fun _ R s => s.heap.get? t = some { cls := .type "tuple", dict := dct, data := .seq xs n, slots := sl } ∧
      R (.ok (.ret (.ref (s.heap.push { cls := .type "tuple_iterator", data := .fields #[.ref t, .int 0 0] }).objs.size)))
        { s with heap := (s.heap.push { cls := .type "tuple_iterator", data := .fields #[.ref t, .int 0 0] }).push { cls := .type "enumerate", data := .fields #[.none, .bool false, .ref s.heap.objs.size, rawInt 0, .none, .none] } }) :=
  .of_wp fun prog w A R s told => by
    obtain ⟨hp, g, d, tk, os⟩ := s
    obtain ⟨ht, q⟩ := told
    have hsub := sub_enumerate
    have isT : Heap.IsTuple (Shared.heap ⟨hp, g, d, tk, os⟩) t xs := ⟨_, ht, rfl, n, rfl⟩
    wp_walk using wpAny_loadPart' ht
    refine wpAny_stack_any fun st => wpAny_pure ?_
    split
    · rename_i c _ _ _ _ _
      cases (c == Value.type "enumerate") <;> (wp_walk using wpAny_loadPart' ht, wpAny_pyIter_tuple isT; exact ⟨_, rfl, q⟩)
    · wp_walk using wpAny_loadPart' ht, wpAny_pyIter_tuple isT
      exact ⟨_, rfl, q⟩
section
variable {prog : Program} {w : World} {A : Around} {E : Value → Shared → Prop} {s : Shared}
theorem call_tup {t : Addr} {xs : Array Value} {Q : Value → Shared → Prop} (isT : s.heap.IsTuple t xs)
    (q : ∀ h', IsEnum h' (s.heap.objs.size + 1) s.heap.objs.size 0 .none → h'.IsTupleIter s.heap.objs.size t 0 → (∀ b o, s.heap.get? b = some o → h'.get? b = some o) → Q (.ref (s.heap.objs.size + 1)) { s with heap := h' }) :
    wpAny (model prog w) A (call (.type "enumerate") [.ref t]) Q E s := by
  obtain ⟨⟨c, dct, dt, sl⟩, ht, hc, n, hd⟩ := isT
  obtain rfl : c = .type "tuple" := hc
  obtain rfl : dt = .seq xs n := hd
  refine callType_new F.called_enumerate (by decide) (F.typeCall_enumerate_1 _) (F.newCall_enumerate_1 _) (fun obj => F.args_object_init_2 obj _) F.entry_enumerate_new (made_tup t xs n dct sl) ⟨ht, ?_⟩
  have z : (s.heap.push { cls := .type "tuple_iterator", data := .fields #[.ref t, .int 0 0] }).objs.size = s.heap.objs.size + 1 := Heap.size_push ..
  show _ ∧ _
  rw [z]
  have he : IsEnum ((s.heap.push { cls := .type "tuple_iterator", data := .fields #[.ref t, .int 0 0] }).push { cls := .type "enumerate", data := .fields #[.none, .bool false, .ref s.heap.objs.size, rawInt 0, .none, .none] })
      (s.heap.objs.size + 1) s.heap.objs.size 0 .none := by
    have y := Heap.get?_push_size (s.heap.push { cls := .type "tuple_iterator", data := .fields #[.ref t, .int 0 0] }) (o := { cls := .type "enumerate", data := .fields #[.none, .bool false, .ref s.heap.objs.size, rawInt 0, .none, .none] }) rfl
    rw [z] at y
    exact y
  exact ⟨⟨_, he, rfl⟩, q _ he ⟨_, Heap.get?_push_of_some _ (Heap.get?_push_size _ rfl), rfl, rfl⟩ fun _ _ y => Heap.get?_push_of_some _ (Heap.get?_push_of_some _ y)⟩
end
/-- the tuple at a at each turn, the item in a new pair -/
def Itu (K : PySem.W.Frag) (a : Addr) : It :=
  ⟨fun i H => ∃ (xs : List V) (x : V), SqT K H a xs ∧ xs[i]? = some x, fun i H v H' => ∃ T x, v = .ref T ∧ H T = none ∧ H' = upd H T (.tup [.int (i : Nat), x]) ∧ ∀ xs, SqT K H a xs → xs[i]? = some x, fun i H => ∃ xs : List V, SqT K H a xs ∧ xs.length = i⟩
theorem turn_tup {P : Program} {w : World} {K : PySem.W.Frag} {elts : List Expr} {kk : Nat} {tpos : Pos} (a e it : Addr) :
    Turn P w K (.Tuple elts kk tpos) (Itu K a) [e, it] e (fun i h => (∃ old, IsEnum h e it ((i : Nat) : Int) old) ∧ h.IsTupleIter it a i ∧ e ≠ it ∧ a ≠ it ∧ a ≠ e) where
  mem := by simp
  obj := fun i h st b hb => by
    obtain ⟨⟨old, he⟩, ⟨o, ho, hc, hd⟩, _⟩ := st
    rcases (show b = e ∨ b = it by simpa using hb) with rfl | rfl
    · exact ⟨_, he, fun v q => nomatch q⟩
    · exact ⟨o, ho, fun v q => by rw [hd] at q; cases q⟩
  keep := fun i h h' st k => let ⟨⟨old, he⟩, hi, hne, n2, n3⟩ := st; ⟨⟨old, k e (by simp) _ he⟩, hi.at fun o q => k it (by simp) o q, hne, n2, n3⟩
  item := by
    intro X hP hw hK hc i pins s σ H E I hf st hg
    subst hP hw hK
    obtain ⟨⟨old, he⟩, hit, hne, nit, nae⟩ := st
    obtain ⟨xs, x, hq, hx⟩ := hg
    obtain ⟨its, rv, p, hz⟩ := I.tuple hq
    have isT : s.heap.IsTuple a its.toArray := p
    obtain ⟨u, hu, ru⟩ := rv.get hx
    have hel : e < s.heap.objs.size := Heap.lt_size he
    have hil : it < s.heap.objs.size := by obtain ⟨_, q, _⟩ := hit; exact Heap.lt_size q
    have D := Draws.tuple (prog := X.prog) (w := X.w) (A := X.A.in1) (show X.A.in1.handled = none from I.ok.hd hc) it a nit its.toArray
    have hin : i < its.toArray.size := by
      rw [List.size_toArray, ← rv.length]
      exact (List.getElem?_eq_some_iff.mp hx).1
    have nef : e ∉ [it, a] := by
      intro z
      rcases List.mem_cons.mp z with z | z
      · exact hne z
      · exact nae (List.mem_singleton.mp z).symm
    refine wpAny_pyNext_enum_itemD D he ⟨hit, isT⟩ hin hne nef fun y h' tk hy ho st' hT hsz hk => ?_
    have hy : its.toArray[i]? = some y := hy
    have : some u = some y := by rw [← hy, ← hu]; simp
    cases this
    refine ⟨_, rfl, wpAny_letOwnedTupleGo_enum (s := { s with heap := h', toks := tk + 1 }) ho fun h'' he' sb => ?_⟩
    have hT2 : h''.get? s.heap.objs.size = some { cls := .type "tuple", data := .seq #[.int i tk, u] } := (sb.2 _ (Nat.ne_of_gt hel)).trans hT
    have new : ObjOk X.prog X.w (upd H s.heap.objs.size (.tup [.int (i : Nat), x])) h'' s.heap.objs.size (.tup [.int (i : Nat), x]) :=
      ⟨show 2 ≤ sizeLine by decide, [.int i tk, u], .cons ⟨_, rfl⟩ (.cons ru .nil), ⟨_, hT2, rfl, _, rfl⟩⟩
    have I1 : Inv X pins σ (upd H s.heap.objs.size (.tup [.int (i : Nat), x])) { s with heap := h'', toks := tk + 1 } :=
      I.turnedNew (ch := [e, it]) (fun b ob hb q => (sb.2 b (fun z => hb (by simp [z]))).trans (hk b ob (fun z => hb (by simp [z])) (fun z => hb (by simp [z])) q)) hf (Nat.le_refl _) new
    refine ⟨.ref s.heap.objs.size, _, I1, rfl, ⟨_, x, rfl, I.hok.fresh (Nat.le_refl _), rfl, fun ys hy => by rw [I.tuple_inj hy hq]; exact hx⟩, ⟨⟨u, ?_⟩, st'.1.at fun o q => (sb.2 it (Ne.symm hne)).trans q, hne, nit, nae⟩, fun b hb => ?_⟩
    · rw [show ((i + 1 : Nat) : Int) = (i : Int) + 1 by omega]
      exact he'
    · have hb' : b < s.heap.objs.size := by
        rcases (show b = e ∨ b = it by simpa using hb) with rfl | rfl
        · exact hel
        · exact hil
      rw [upd_ne (Nat.ne_of_lt hb')]
      exact (hf b hb).1
  done := by
    intro X hP hw hK hc i pins s σ H E I hf st hg
    subst hP hw hK
    obtain ⟨⟨old, he⟩, hit, hne, nit, nae⟩ := st
    obtain ⟨xs, hq, hx⟩ := hg
    obtain ⟨its, rv, p, hz⟩ := I.tuple hq
    have isT : s.heap.IsTuple a its.toArray := p
    obtain ⟨f0, f1, f2, f3, f4, f5⟩ := hf it (by simp)
    have D := Draws.tuple (prog := X.prog) (w := X.w) (A := X.A.in1) (show X.A.in1.handled = none from I.ok.hd hc) it a nit its.toArray
    have many : its.toArray.size = i := by
      rw [List.size_toArray, ← rv.length]
      exact hx
    exact wpAny_pyNext_enum_endD D he (by rw [many]; exact ⟨hit, isT⟩) fun h' eb => ⟨rfl, I.turned (t' := s.toks) (fun b o hb q => eb b o hb q) f0 f1 f3 f4 f5⟩
  self := fun A i s Q E st h => let ⟨⟨_, he⟩, _⟩ := st; wpAny_pyIter_enum he h
def iEnT (K : PySem.W.Frag) (ta : TA) : TI := fun σ H R => ta σ H fun vs G => ∃ a xs, vs = [.ref a] ∧ SqT K G a xs ∧ R (Itu K a) G
theorem pi_enT {X : Cx} {e : Expr} {ta : TA} {p pos tpos : Pos} {elts : List Expr} {kk : Nat} (hg : Gl X "enumerate") (hm : X.mg "enumerate" = none) (ha : PA X [e] ta) (hs : starEach [e] X.env = [(false, eval e X.env)] := by rfl) :
    PI X (.Tuple elts kk tpos) (.Call (.Name "enumerate" p) [e] [] pos) (iEnT X.K ta) := by
  refine ⟨fun pins s σ H R I told => Call_ (ld_blt I hg hm boot_enumerate (PyProof.Rows.callWith_type1 (thn (ha.run pos pins s σ H _ I told) ?_) hs rfl))⟩
  rintro us s1 ⟨vs, H1, I1, rv, a, xs, rfl, hq, q⟩
  obtain ⟨u, rfl, rfl⟩ := vals1 rv
  obtain ⟨its, rv', isT, room⟩ := I1.tuple hq
  have lta : a < s1.heap.objs.size := by obtain ⟨_, y, _⟩ := isT; exact Heap.lt_size y
  refine call_tup isT fun h' he hit hk => wpAny_pyIter_enum he ?_
  refine ⟨s1.heap.objs.size + 1, [s1.heap.objs.size + 1, s1.heap.objs.size], _, _, H1, rfl, I1.kept (t' := s1.toks) hk, turn_tup a (s1.heap.objs.size + 1) s1.heap.objs.size, ⟨⟨.none, he⟩, hit, Nat.succ_ne_self _, Nat.ne_of_lt lta, Nat.ne_of_lt (Nat.lt_succ_of_lt lta)⟩, fun b hb => ?_, q⟩
  have le : s1.heap.objs.size ≤ b := by
    rcases (show b = s1.heap.objs.size + 1 ∨ b = s1.heap.objs.size by simpa using hb) with rfl | rfl
    · exact Nat.le_succ _
    · exact Nat.le_refl _
  exact I1.fpOk le (I1.hok.fresh le)
theorem walk_enT {K : PySem.W.Frag} {a : Addr} {xs : List V} : Walk (Itu K a) xs.length (fun H => SqT K H a xs) (YPair (fun i => some (.int (i : Nat))) (fun i => xs[i]?)) := by
  refine ⟨fun i _ hi q => ⟨xs, xs[i], q, by simp [hi]⟩, fun _ q => ⟨xs, q, rfl⟩, fun i H v H' _ q y => ?_⟩
  obtain ⟨T, x, h1, h2, h3, h4⟩ := y
  exact ⟨T, .int (i : Nat), x, h1, h2, h3, rfl, h4 xs q⟩
end En


namespace Kn
open PySem PySem.Spec PyProof.Rows L2
structure Def (K : PySem.W.Frag) (mg : Str → Option Value) (x : Str) (i : Nat) (ps : List Str) (f : Addr) (fd : FuncData) : Prop where
  F : Fun K x x (topS i) f fd
  b : Binds K fd ps []
  m : mg x = some (.ref f)
abbrev nThing : List Str := ["thing"]
theorem scInteger : FnScope nThing ["thing"] (defScope (topS 3)) := ⟨rfl, rfl, rfl, by decide +kernel, rfl, by decide +kernel, by decide +kernel⟩
theorem scPositive : FnScope nThing ["thing"] (defScope (topS 5)) := ⟨rfl, rfl, rfl, by decide +kernel, rfl, by decide +kernel, by decide +kernel⟩
theorem scPair : FnScope nThing ["thing"] (defScope (topS 1)) := ⟨rfl, rfl, rfl, by decide +kernel, rfl, by decide +kernel, by decide +kernel⟩
theorem scName : FnScope nThing ["thing"] (defScope (topS 6)) := ⟨rfl, rfl, rfl, by decide +kernel, rfl, by decide +kernel, by decide +kernel⟩
abbrev nTab : List Str := ["thing", "k", "name"]
theorem scTab : FnScope nTab ["thing"] (defScope (topS 7)) := ⟨rfl, rfl, rfl, by decide +kernel, rfl, by decide +kernel, by decide +kernel⟩
abbrev nKind : List Str := ["thing", "name", "fee", "has", "table"]
theorem scKind : FnScope nKind ["thing"] (defScope (topS 8)) := ⟨rfl, rfl, rfl, by decide +kernel, rfl, by decide +kernel, by decide +kernel⟩
def spB (K : PySem.W.Frag) (f : PyData → Bool) : Sp := fun vs H Q _ => ∃ (v : V) (d : PyData), vs = [v] ∧ Dp K H v d ∧ Q (.bl (f d)) H
structure Nice (d : PyData) : Prop where
  g : goodD d = true
  dp : d.depth ≤ 40
  n : nodesD d ≤ 1000
theorem Nice.tm {ds : List PyData} (h : Nice (.tuple ds)) : Tm 1000 39 ds := ⟨h.g, by have := h.n; show nodesDs ds ≤ 1000; have e : nodesD (.tuple ds) = 1 + nodesDs ds := rfl; omega, by have := h.dp; have e : (PyData.tuple ds).depth = PyData.depthAll ds + 1 := rfl; omega⟩
theorem Nice.get {ds : List PyData} (h : Nice (.tuple ds)) {i : Nat} {d : PyData} (e : ds[i]? = some d) : Nice d := by
  obtain ⟨a, b, c⟩ := h.tm.get e
  exact ⟨a, by omega, b⟩
theorem Nice.len {ds : List PyData} (h : Nice (.tuple ds)) : ds.length ≤ 1000 := Nat.le_trans (nodes_len ds) h.tm.n
theorem Nice.slen {x : Str} (h : Nice (.str x)) : x.length ≤ 1000 := by
  have := h.n
  have e : nodesD (.str x) = 1 + x.length := rfl
  omega
def spG (K : PySem.W.Frag) (f : PyData → Bool) : Sp := fun vs H Q _ => ∃ (v : V) (d : PyData), vs = [v] ∧ Dp K H v d ∧ Nice d ∧ ∀ H', Same H H' → Q (.bl (f d)) H'
def pairB : PyData → Bool
  | .tuple ds => decide (ds.length = 2)
  | _ => false
theorem tupD {K : PySem.W.Frag} {H : Hp} {v : V} {ds : List PyData} (h : Dp K H v (.tuple ds)) : ∃ p xs, v = .ref p ∧ SqT K H p xs ∧ DpAll K H xs ds ∧ xs.length = ds.length := by
  cases h with
  | tup a b => exact ⟨_, _, rfl, a, b, dsLen b⟩
theorem getD_of {α : Type} {ds : List α} {i : Nat} {d e : α} (h : ds[i]? = some d) : ds.getD i e = d := by
  rw [List.getD_eq_getElem?_getD, h]
  rfl
theorem name_str {d : PyData} (h : nameB d = true) : ∃ x, d = .str x := by
  cases d <;> first | exact ⟨_, rfl⟩ | cases h
section
variable {P : Program} {w : World} {K : PySem.W.Frag} {mg : Str → Option Value} {base : Heap}
theorem ok_integer {f : Addr} {fd : FuncData} (F : Fun K "is_integer" "is_integer" (topS 3) f fd) (mi : mg "isinstance" = none) (mn : mg "int" = none) (mb : mg "bool" = none) : FnOk P w K mg base CX0 1 f fd ["thing"] (spB K intB) := by
  refine F.ok scInteger (fun vs H Q E h => ?_) (fun cdv A outer s H vs Q E hr h => ?_)
  · obtain ⟨v, d, rfl, _⟩ := h
    rfl
  · obtain ⟨v, d, rfl, hd, q⟩ := h
    refine ⟨_, pss_one (ps_ret (pe_and (pe_callB call_isi (by rfl) mi boot_isinstance (pa_cons (pv 0) (pa_cons (pe_bltn (v := .ty "int") (by rfl) mn (by decide +kernel) rfl) pa_nil))) (pe_one (pe_not (pe_callB call_isi (by rfl) mi boot_isinstance (pa_cons (pv 0) (pa_cons (pe_bltn (v := .ty "bool") (by rfl) mb (by decide +kernel) rfl) pa_nil))))))), ?_⟩
    refine ⟨v, rfl, v, .ty "int", _, _, _, rfl, .ty "int", ty_of hd, kit_int, ?_⟩
    refine ⟨_, rfl, ?_⟩
    have no : (intB d || boolB d) = true → Q (.bl (!boolB d)) H := fun z => by
      cases d <;> first | exact q | cases z
    cases z : intB d || boolB d
    · refine iteF ?_
      cases d <;> first | exact q | cases z
    · exact iteT ⟨v, rfl, v, .ty "bool", _, _, _, rfl, .ty "bool", ty_of hd, kit_bool, _, rfl, no z⟩
theorem ok_positive {f fI : Addr} {fd fdI : FuncData} (F : Fun K "is_positive" "is_positive" (topS 5) f fd) (I : Def K mg "is_integer" 3 ["thing"] fI fdI) (OI : FnOk P w K mg base CX0 1 fI fdI ["thing"] (spB K intB)) : FnOk P w K mg base CX0 2 f fd ["thing"] (spB K posB) := by
  refine F.ok scPositive (fun vs H Q E h => ?_) (fun cdv A outer s H vs Q E hr h => ?_)
  · obtain ⟨v, d, rfl, _⟩ := h
    rfl
  · obtain ⟨v, d, rfl, hd, q⟩ := h
    refine ⟨_, pss_one (ps_ret (pe_and (pe_call OI hr (by rfl) I.m I.F.kp I.b .nil pass0 (pa_cons (pv 0) pa_nil)) (pe_one (pe_cmpR op_ge (pv 0) pe_int (nomark _))))), ?_⟩
    refine ⟨v, rfl, v, d, rfl, hd, _, rfl, ?_⟩
    cases hd with
    | int n => exact iteT ⟨_, rfl, n, 1, rfl, rfl, q⟩
    | non => exact iteF q
    | bl b => exact iteF q
    | str x => exact iteF q
    | lst a b => exact iteF q
    | tup a b => exact iteF q
theorem ok_pair {f : Addr} {fd : FuncData} (F : Fun K "is_pair" "is_pair" (topS 1) f fd) (ms : mg "isinstance" = none) (mt : mg "tuple" = none) (ml : mg "len" = none) : FnOk P w K mg base CX0 1 f fd ["thing"] (spG K pairB) := by
  refine F.ok scPair (fun vs H Q E h => ?_) (fun cdv A outer s H vs Q E hr h => ?_)
  · obtain ⟨v, d, rfl, _⟩ := h
    rfl
  · obtain ⟨v, d, rfl, hd, ni, q⟩ := h
    refine ⟨_, pss_one (ps_ret (pe_and (pe_callB call_isi (by rfl) ms boot_isinstance (pa_cons (pv 0) (pa_cons (pe_bltn (v := .ty "tuple") (by rfl) mt (by decide +kernel) rfl) pa_nil))) (pe_one (pe_cmpR op_eq (pe_callB call_len_seq (by rfl) ml PySem.boot_len (pa_cons (pv 0) pa_nil)) pe_int (nomark _))))), ?_⟩
    refine ⟨v, rfl, v, .ty "tuple", _, _, _, rfl, .ty "tuple", ty_of hd, kit_tup, _, rfl, ?_⟩
    cases hd with
    | tup ht hds =>
      rename_i p xs ds
      refine iteT ⟨_, rfl, _, _, rfl, .inr ht, rfl, ?_⟩
      have e := dsLen hds
      rw [dec_int]
      have e2 : ((xs.length : Int) == 2) = pairB (.tuple ds) := by
        show _ = decide (ds.length = 2)
        rw [← e]
        by_cases z : xs.length = 2
        · rw [z]; rfl
        · rw [decide_eq_false z]; exact beq_eq_false_iff_ne.mpr (by omega)
      rw [e2]
      exact q H (Same.refl H)
    | non => exact iteF (q H (Same.refl H))
    | bl b => exact iteF (q H (Same.refl H))
    | int n => exact iteF (q H (Same.refl H))
    | str n => exact iteF (q H (Same.refl H))
    | lst a b => exact iteF (q H (Same.refl H))
theorem ok_name {f : Addr} {fd : FuncData} (F : Fun K "is_name" "is_name" (topS 6) f fd) (ml : mg "len" = none) (mi : mg "isinstance" = none) (ms : mg "str" = none) : FnOk P w K mg base CX0 1 f fd ["thing"] (spG K nameB) := by
  refine F.ok scName (fun vs H Q E h => ?_) (fun cdv A outer s H vs Q E hr h => ?_)
  · obtain ⟨v, d, rfl, _⟩ := h
    rfl
  · obtain ⟨v, d, rfl, hd, ni, q⟩ := h
    refine ⟨_, pss_cons (ps_if (PW.pt (pw_or (pt_not (pt_val (pe_callB call_isi (by rfl) mi boot_isinstance (pa_cons (pv 0) (pa_cons (pe_bltn (v := .ty "str") (by rfl) ms (by decide +kernel) rfl) pa_nil))))) (pw_or1 (pt_cmpR op_gt (pe_callB call_len_str (by rfl) ml PySem.boot_len (pa_cons (pv 0) pa_nil)) pe_int (nomark _))))) (pss_one (ps_ret pe_bl)) pss_nil)
      (pss_one (ps_ret (pe_and (pe_m0 PySem.F.slot_str_isascii PySem.F.type_str_isascii mt_isascii (pv 0)) (pe_and (pe_m0 PySem.F.slot_str_isalpha PySem.F.type_str_isalpha mt_isalpha (pv 0)) (pe_one (pe_m0 PySem.F.slot_str_islower PySem.F.type_str_islower mt_islower (pv 0))))))), ?_⟩
    have q0 := q H (Same.refl H)
    refine ⟨v, rfl, v, .ty "str", _, _, _, rfl, .ty "str", ty_of hd, kit_str, _, rfl, ?_⟩
    cases hd with
    | str x =>
      have asc : (x.cps.toList.all fun c => decide (c < 128)) = true := ni.g
      have hl := ni.slen
      refine iteF ⟨_, rfl, x, rfl, Nat.le_trans hl (by decide), x.length, 8, rfl, rfl, _, rfl, ?_⟩
      by_cases big : x.length ≤ 8
      · rw [decide_eq_false (show ¬ (8 : Int) < (x.length : Nat) by omega)]
        refine iteF ?_
        have e1 : Txt.isascii x = true := by
          show x.cps.all (· < 128) = true
          rw [← Array.all_toList]
          exact asc
        refine ⟨_, rfl, ⟨_, rfl⟩, x, rfl, rfl, trivial, _, rfl, ?_⟩
        rw [e1]
        refine iteT ⟨_, rfl, ⟨_, rfl⟩, x, rfl, rfl, trivial, _, rfl, ?_⟩
        have e2 : nameB (.str x) = (Txt.isalpha x && Txt.islower x) := by
          rw [low_is asc]
          show (decide (1 ≤ x.length) && decide (x.length ≤ 8) && lowB x) = _
          rw [decide_eq_true big, Bool.and_true]
        rw [e2] at q0
        cases z : Txt.isalpha x
        · rw [z] at q0
          exact iteF q0
        · rw [z] at q0
          exact iteT ⟨_, rfl, ⟨_, rfl⟩, x, rfl, rfl, trivial, q0⟩
      · rw [decide_eq_true (show (8 : Int) < (x.length : Nat) by omega)]
        have e2 : nameB (.str x) = false := by
          show (decide (1 ≤ x.length) && decide (x.length ≤ 8) && lowB x) = _
          rw [decide_eq_false big, Bool.and_false, Bool.false_and]
        rw [e2] at q0
        exact iteT q0
    | non => exact iteT q0
    | bl b => exact iteT q0
    | int n => exact iteT q0
    | lst a b => exact iteT q0
    | tup a b => exact iteT q0
end
end Kn


/-! Kn: a comprehension with a filter over a tuple; a text among texts. -/
namespace Kn
open PySem PySem.Spec PyProof.Rows L2
theorem lc_pickT {K : PySem.W.Frag} {a : Addr} {xs : List V} {slot : Nat} {te tl : TE} {tt : TT} {vs : List Nat} {σ : L2.St} {H : Hp} {Q : VK} (ys : List (Bool × V)) (hl : ys.length = xs.length) (hs : xs.length ≤ 1000) (hT : SqT K H a xs)
    (htl : ∀ R : VK, R (.ref a) H → tl σ H R) (w : ∀ v, wipe ((wipe σ vs).set slot (some v)) vs = wipe σ vs)
    (test : ∀ (i : Nat) (x : V) (b : Bool) (y : V) (G : Hp) (R : Bool → Hp → Prop), xs[i]? = some x → ys[i]? = some (b, y) → Same H G → R b G → tt ((wipe σ vs).set slot (some x)) G R)
    (turn : ∀ (i : Nat) (x : V) (b : Bool) (y : V) (G : Hp) (R : VK), xs[i]? = some x → ys[i]? = some (b, y) → Same H G → R y G → te ((wipe σ vs).set slot (some x)) G R)
    (done : ∀ (D : Addr) (G : Hp), H D = none → Same H G → G D = some (.lst ((ys.filter (·.1)).map (·.2))) → Q (.ref D) G) : tLc (iTup K tl) (gName slot) tt te vs σ H Q := by
  refine htl _ ⟨a, rfl, ⟨xs, hT⟩, fun D nD => ?_⟩
  refine lc_tup (K := K) (a := a) (xs := xs) (fun i G => Same H G ∧ G D = some (.lst (((ys.take i).filter (·.1)).map (·.2)))) ⟨same_new nD, upd_same⟩ (fun i G _ h => tupS h.1 hT) ?_ ?_
  · rintro i x G hx ⟨sm, hD⟩
    have hi : i < xs.length := (List.getElem?_eq_some_iff.mp hx).1
    have hy : ys[i]? = some (ys[i]'(by omega)) := List.getElem?_eq_getElem (by omega)
    have et : ys.take (i + 1) = ys.take i ++ [ys[i]'(by omega)] := by
      rw [List.take_add_one, hy]
      rfl
    refine ⟨w x, ?_⟩
    generalize ys[i]'(by omega) = by_ at hy et
    obtain ⟨b, y⟩ := by_
    refine test i x b y G _ hx hy sm ?_
    cases b
    · refine iteF ⟨sm, ?_⟩
      rw [hD, et, List.filter_append]
      simp
    · refine iteT (turn i x true y G _ hx hy sm ⟨_, hD, ?_, putS sm nD, ?_⟩)
      · rw [List.length_map]
        have := List.length_filter_le (·.1) (ys.take i)
        rw [List.length_take] at this
        exact small' (by omega)
      · rw [upd_same, et, List.filter_append, List.map_append]
        rfl
  · rintro G ⟨sm, hD⟩
    refine done D G nD sm ?_
    rw [hD, List.take_of_length_le (by omega)]
theorem inV_strs (n : Str) : ∀ t : List Str, inV (.str n) (t.map V.str) = decide (n ∈ t)
  | [] => by
    symm
    simp [inV]
  | a :: r => by
    have ih := inV_strs n r
    show ((a == n) || inV (.str n) (r.map V.str)) = _
    rw [ih]
    by_cases h : a = n
    · simp [h]
    · have h2 : ¬ n = a := fun z => h z.symm
      simp [h, h2]
theorem flat_strs (t : List Str) : (t.map V.str).all flatV = true := by
  simp [flatV]
end Kn


/-! Kn: a filter over a tuple whose test may make objects; rows of names. -/
namespace Kn
open PySem PySem.Spec PyProof.Rows L2
theorem lc_filtT {K : PySem.W.Frag} {a : Addr} {xs : List V} {slot : Nat} {te tl : TE} {tt : TT} {vs : List Nat} {σ : L2.St} {H : Hp} {Q : VK} (f : PyData → Bool) (ds : List PyData) (hT : SqT K H a xs) (hd : DpAll K H xs ds) (few : xs.length ≤ 1000)
    (htl : ∀ R : VK, R (.ref a) H → tl σ H R) (w : ∀ v, wipe ((wipe σ vs).set slot (some v)) vs = wipe σ vs)
    (test : ∀ (i : Nat) (x : V) (d : PyData) (G : Hp) (R : Bool → Hp → Prop), xs[i]? = some x → ds[i]? = some d → Dp K G x d → Same H G → (∀ G', Same G G' → R (f d) G') → tt ((wipe σ vs).set slot (some x)) G R)
    (turn : ∀ (x : V) (G : Hp) (R : VK), R x G → te ((wipe σ vs).set slot (some x)) G R)
    (done : ∀ (D : Addr) (ws : List V) (G : Hp), H D = none → Same H G → G D = some (.lst ws) → DpAll K G ws (ds.filter f) → Q (.ref D) G) : tLc (iTup K tl) (gName slot) tt te vs σ H Q := by
  refine htl _ ⟨a, rfl, ⟨xs, hT⟩, fun D nD => ?_⟩
  refine lc_tup (K := K) (a := a) (xs := xs) (fun i G => Same H G ∧ ∃ ws, G D = some (.lst ws) ∧ DpAll K H ws ((ds.take i).filter f)) ⟨same_new nD, [], upd_same, .nil⟩ (fun i G _ h => tupS h.1 hT) ?_ ?_
  · rintro i x G hx ⟨sm, ws, eD, hw⟩
    have hi : i < xs.length := (List.getElem?_eq_some_iff.mp hx).1
    obtain ⟨d, hdi, dp⟩ := dsAt hd i x hx
    have et : (ds.take (i + 1)).filter f = (ds.take i).filter f ++ (if f d = true then [d] else []) := by
      rw [List.take_add_one, hdi, List.filter_append]
      show _ ++ [d].filter f = _
      rw [List.filter_cons]
      cases f d <;> rfl
    refine ⟨w x, ?_⟩
    refine test i x d G _ hx hdi (dKeep sm dp) sm fun G' s' => ?_
    cases z : f d
    · refine iteF ⟨sm.trans s', ws, s' _ _ eD, ?_⟩
      rw [et, z]
      simpa using hw
    · refine iteT (turn x G' _ ⟨ws, s' _ _ eD, ?_, putS (sm.trans s') nD, ws ++ [x], upd_same, ?_⟩)
      · have h1 := dsLen hw
        have h2 := List.length_filter_le f (ds.take i)
        have h3 := dsLen hd
        rw [List.length_take] at h2
        exact small' (by omega)
      · rw [et, z]
        exact dsApp hw (.cons dp .nil)
  · rintro G ⟨sm, ws, eD, hw⟩
    rw [List.take_of_length_le (by rw [dsLen hd]; exact Nat.le_refl _)] at hw
    exact done D ws G nD sm eD (dsKeep sm hw)
theorem eqv_nil2 (ds : List PyData) : PyData.eqv (.list ds) (.list []) = ds.isEmpty := by
  cases ds with
  | nil => rfl
  | cons d r => rfl
theorem filter_none {α : Type} (f : α → Bool) : ∀ ds : List α, (ds.filter fun d => !f d).isEmpty = ds.all f
  | [] => rfl
  | d :: r => by
    rw [List.filter_cons, List.all_cons]
    cases f d
    · rfl
    · exact filter_none f r
theorem goodFilter (b : PyData → Bool) : ∀ {ds : List PyData}, goodDs ds = true → goodDs (ds.filter b) = true
  | [], _ => rfl
  | d :: r, h => by
    obtain ⟨h1, h2⟩ := Bool.and_eq_true_iff.mp (show (goodD d && goodDs r) = true from h)
    have ih := goodFilter b h2
    rw [List.filter_cons]
    cases b d
    · exact ih
    · show (goodD d && goodDs (r.filter b)) = true
      rw [h1, ih]
      rfl
theorem depthFilter (b : PyData → Bool) : ∀ (ds : List PyData), PyData.depthAll (ds.filter b) ≤ PyData.depthAll ds
  | [] => Nat.le_refl _
  | d :: r => by
    have ih := depthFilter b r
    rw [List.filter_cons]
    show _ ≤ max d.depth (PyData.depthAll r)
    cases b d
    · exact Nat.le_trans ih (Nat.le_max_right _ _)
    · show max d.depth (PyData.depthAll (r.filter b)) ≤ _
      omega
theorem gd_at {ds : List PyData} {k : Nat} {d : PyData} (h : ds[k]? = some d) : ds.getD k .none = d := by
  rw [List.getD_eq_getElem?_getD, h]
  rfl
theorem row_no {ds : List PyData} {k : Nat} (hk : k < ds.length) (h : okAt ds k = false) : rowB (.tuple ds) = false := by
  show (List.range ds.length).all (okAt ds) = false
  rw [List.all_eq_false]
  exact ⟨k, List.mem_range.mpr hk, by rw [h]; exact Bool.false_ne_true⟩
theorem row_yes {ds : List PyData} (h : ∀ k, k < ds.length → okAt ds k = true) : rowB (.tuple ds) = true :=
  List.all_eq_true.mpr fun k hk => h k (List.mem_range.mp hk)
theorem row_split (ds : List PyData) : rowB (.tuple ds) = (ds.all nameB && (List.range (ds.length - 1)).all fun j => ltD (ds.getD j .none) (ds.getD (j + 1) .none)) := by
  rw [Bool.eq_iff_iff, Bool.and_eq_true]
  constructor
  · intro h
    have h : ∀ k, k < ds.length → okAt ds k = true := fun k hk => List.all_eq_true.mp h k (List.mem_range.mpr hk)
    refine ⟨List.all_eq_true.mpr fun d hd => ?_, List.all_eq_true.mpr fun j hj => ?_⟩
    · obtain ⟨k, hk, e⟩ := List.getElem_of_mem hd
      have q := (Bool.and_eq_true_iff.mp (h k hk)).1
      rw [gd_at (List.getElem?_eq_getElem hk), e] at q
      exact q
    · have hj := List.mem_range.mp hj
      have q := (Bool.and_eq_true_iff.mp (h (j + 1) (by omega))).2
      rw [Bool.or_eq_true] at q
      rcases q with q | q
      · exact absurd (beq_iff_eq.mp q) (by omega)
      · exact q
  · rintro ⟨h1, h2⟩
    refine row_yes fun k hk => ?_
    have q1 := List.all_eq_true.mp h1 _ (List.getElem_mem hk)
    show (nameB (ds.getD k .none) && (k == 0 || ltD (ds.getD (k - 1) .none) (ds.getD k .none))) = true
    rw [gd_at (List.getElem?_eq_getElem hk), q1, Bool.true_and]
    cases k with
    | zero => rfl
    | succ j =>
      have q2 := List.all_eq_true.mp h2 j (List.mem_range.mpr (by omega))
      rw [gd_at (List.getElem?_eq_getElem hk)] at q2
      show (false || ltD (ds.getD j .none) ds[j + 1]) = true
      rw [q2]
      rfl
theorem az_in : ∀ c : Nat, c < 128 → decide (c ∈ ("abcdefghijklmnopqrstuvwxyz" : Str).cps.toList) = decide (97 ≤ c ∧ c ≤ 122) := by
  have all : ((List.range 128).all fun c => decide (decide (c ∈ ("abcdefghijklmnopqrstuvwxyz" : Str).cps.toList) = decide (97 ≤ c ∧ c ≤ 122))) = true := by decide +kernel
  intro c hc
  exact of_decide_eq_true (List.all_eq_true.mp all c (List.mem_range.mpr hc))
end Kn


namespace Kn
open PySem PySem.Spec PyProof.Rows L2
abbrev nItem : List Str := ["_law_item"]
theorem scWhole : FnScope nItem ["_law_item"] (defScope (topS 25)) := ⟨rfl, rfl, rfl, by decide +kernel, rfl, by decide +kernel, by decide +kernel⟩
abbrev nLbl : List Str := ["_law_item", "_law_sign"]
theorem scLbl : FnScope nLbl ["_law_item"] (defScope (topS 26)) := ⟨rfl, rfl, rfl, by decide +kernel, rfl, by decide +kernel, by decide +kernel⟩
abbrev nRow : List Str := ["_law_item", "_law_one", "_law_k"]
theorem scRow : FnScope nRow ["_law_item"] (defScope (topS 27)) := ⟨rfl, rfl, rfl, by decide +kernel, rfl, by decide +kernel, by decide +kernel⟩
theorem at_i {xs : List V} {z : Int} {j : Nat} {v : V} (e : z = (j : Int)) (h : xs[j]? = some v) : atI xs z = some v := by
  rw [e]
  exact atI_nat h
section
variable {P : Program} {w : World} {K : PySem.W.Frag} {mg : Str → Option Value} {base : Heap}
theorem ok_whole {f : Addr} {fd : FuncData} (F : Fun K "_law_is_whole" "_law_is_whole" (topS 25) f fd) (mi : mg "isinstance" = none) (mn : mg "int" = none) (mb : mg "bool" = none) : FnOk P w K mg base CX0 1 f fd ["_law_item"] (spB K intB) := by
  refine F.ok scWhole (fun vs H Q E h => ?_) (fun cdv A outer s H vs Q E hr h => ?_)
  · obtain ⟨v, d, rfl, _⟩ := h
    rfl
  · obtain ⟨v, d, rfl, hd, q⟩ := h
    refine ⟨_, pss_one (ps_ret (pe_and (pe_callB call_isi (by rfl) mi boot_isinstance (pa_cons (pv 0) (pa_cons (pe_bltn (v := .ty "int") (by rfl) mn (by decide +kernel) rfl) pa_nil))) (pe_one (pe_not (pe_callB call_isi (by rfl) mi boot_isinstance (pa_cons (pv 0) (pa_cons (pe_bltn (v := .ty "bool") (by rfl) mb (by decide +kernel) rfl) pa_nil))))))), ?_⟩
    refine ⟨v, rfl, v, .ty "int", _, _, _, rfl, .ty "int", ty_of hd, kit_int, ?_⟩
    refine ⟨_, rfl, ?_⟩
    have no : (intB d || boolB d) = true → Q (.bl (!boolB d)) H := fun z => by
      cases d <;> first | exact q | cases z
    cases z : intB d || boolB d
    · refine iteF ?_
      cases d <;> first | exact q | cases z
    · exact iteT ⟨v, rfl, v, .ty "bool", _, _, _, rfl, .ty "bool", ty_of hd, kit_bool, _, rfl, no z⟩
theorem ok_tab {g gN : Addr} {fd fdN : FuncData} (F : Fun K "is_table" "is_table" (topS 7) g fd) (N : Def K mg "is_name" 6 ["thing"] gN fdN) (ON : FnOk P w K mg base CX0 1 gN fdN ["thing"] (spG K nameB))
    (mi : mg "isinstance" = none) (mt : mg "tuple" = none) (me : mg "enumerate" = none) : FnOk P w K mg base CX0 2 g fd ["thing"] (spG K rowB) := by
  refine F.ok scTab (fun vs H Q E h => ?_) (fun cdv A outer s H vs Q E hr h => ?_)
  · obtain ⟨v, d, rfl, _⟩ := h
    rfl
  · obtain ⟨v, d, rfl, hd, ni, q⟩ := h
    refine ⟨_, pss_cons (ps_if (pt_not (pt_val (pe_callB call_isi (by rfl) mi boot_isinstance (pa_cons (pv 0) (pa_cons (pe_bltn (v := .ty "tuple") (by rfl) mt (by decide +kernel) rfl) pa_nil))))) (pss_one (ps_ret pe_bl)) pss_nil)
      (pss_cons (ps_for PassesOwn.never rfl (En.pi_enT (by rfl) me (pa_cons (pv 0) pa_nil)) (pg_tup (by rfl) (pgs_cons (pg_name (i := 1) scTab.nd rfl (.inl rfl)) (pgs_cons (pg_name (i := 2) scTab.nd rfl (.inl rfl)) pgs_nil)))
        (pss_cons (ps_if (pt_not (pt_val (pe_call ON hr (by rfl) N.m N.F.kp N.b .nil pass0 (pa_cons (pv 2) pa_nil)))) (pss_one (ps_ret pe_bl)) pss_nil)
        (pss_one (ps_if (PW.pt (pw_and (pt_cmpR op_gt (pv 1) pe_int (nomark _)) (pw_and1 (pt_cmpR op_ge_str (pe_ix ix_tup (pv 0) (pe_op op_sub (pv 1) pe_int) (fun _ _ => rfl)) (pv 2) (nomark _))))) (pss_one (ps_ret pe_bl)) pss_nil))))
      (pss_one (ps_ret pe_bl))), ?_⟩
    have q0 := q H (Same.refl H)
    refine ⟨v, rfl, v, .ty "tuple", _, _, _, rfl, .ty "tuple", ty_of hd, kit_tup, _, rfl, ?_⟩
    cases hd with
    | tup hT hds =>
      rename_i p xs ds
      have lx := dsLen hds
      refine iteF ⟨.ref p, rfl, p, xs, rfl, hT, for_it En.walk_enT (fun i σ G => ∃ y1 y2, σ = [some (.ref p), y1, y2] ∧ Same H G ∧ ∀ k, k < i → okAt ds k = true) ⟨none, none, rfl, Same.refl H, fun k hk => absurd hk (Nat.not_lt_zero k)⟩ (fun i σ G _ ⟨_, _, _, s, _⟩ => tupS s hT) ?_ ?_⟩
      · rintro i x σ G G' hi ⟨y1, y2, rfl, sG, old⟩ ⟨T, k, u, rfl, nT, rfl, hk, hv⟩
        obtain rfl : V.int (i : Nat) = k := Option.some.inj hk
        obtain ⟨d, hdi, dp⟩ := dsAt hds i u hv
        have sN := putS (o := .tup [V.int (i : Nat), u]) sG (sG.free nT)
        refine ⟨T, _, rfl, .inl (.inl upd_same), rfl, _, _, rfl, _, _, rfl, rfl, ?_⟩
        refine ⟨u, rfl, u, d, rfl, dKeep sN dp, ni.get hdi, fun G2 s2 => ⟨_, rfl, ?_⟩⟩
        have sN2 := sN.trans s2
        have hi' : i < ds.length := by omega
        cases z : nameB d
        · refine iteT ?_
          have no : okAt ds i = false := by
            show (nameB (ds.getD i .none) && _) = false
            rw [gd_at hdi, z, Bool.false_and]
          rw [row_no hi' no] at q
          exact q G2 sN2
        · refine iteF ?_
          refine ⟨_, rfl, (i : Nat), 0, rfl, rfl, _, rfl, ite2 (fun c => ?_) (fun c => ?_)⟩
          · have c0 : 0 < i := by
              have := of_decide_eq_true c
              omega
            obtain ⟨j, rfl⟩ : ∃ j, i = j + 1 := ⟨i - 1, by omega⟩
            have hj : j < ds.length := by omega
            have hdj : ds[j]? = some ds[j] := List.getElem?_eq_getElem hj
            have okj := old j (by omega)
            have nj : nameB ds[j] = true := by
              have := (Bool.and_eq_true_iff.mp okj).1
              rw [gd_at hdj] at this
              exact this
            obtain ⟨xj, exj⟩ := name_str nj
            obtain ⟨xi, rfl⟩ := name_str z
            have hxj : xs[j]? = some xs[j] := List.getElem?_eq_getElem (by omega)
            obtain ⟨d', hd', dpj⟩ := dsAt hds j _ hxj
            obtain rfl : d' = ds[j] := Option.some.inj (hd'.symm.trans hdj)
            rw [exj] at dpj
            generalize xs[j] = vj at hxj dpj
            cases dpj
            cases dp
            refine ⟨.ref p, rfl, _, rfl, ((j + 1 : Nat) : Int), 1, rfl, rfl, p, xs, _, .str xj, rfl, rfl, tupS sN2 hT, at_i (j := j) (by omega) hxj, _, rfl, _, _, rfl, rfl, _, rfl, ?_⟩
            have key : okAt ds (j + 1) = decide (xj.cps.toList < xi.cps.toList) := by
              show (nameB (ds.getD (j + 1) .none) && (false || ltD (ds.getD j .none) (ds.getD (j + 1) .none))) = _
              rw [gd_at hdi, gd_at hdj, z, exj]
              rfl
            cases lt : decide (xj.cps.toList < xi.cps.toList)
            · refine iteT ?_
              rw [lt] at key
              rw [row_no hi' key] at q
              exact q G2 sN2
            · refine iteF ⟨_, _, rfl, sN2, fun k hk => ?_⟩
              rw [lt] at key
              rcases Nat.lt_succ_iff_lt_or_eq.mp hk with hk | rfl
              · exact old k hk
              · exact key
          · have i0 : i = 0 := by
              have : ¬ (0 : Int) < (i : Nat) := fun z => c (decide_eq_true z)
              omega
            subst i0
            refine iteF ⟨_, _, rfl, sN2, fun k hk => ?_⟩
            obtain rfl : k = 0 := by omega
            show (nameB (ds.getD 0 .none) && true) = true
            rw [gd_at hdi, z]
            rfl
      · rintro σ G ⟨y1, y2, rfl, sG, old⟩
        have yes := row_yes (ds := ds) fun k hk => old k (by omega)
        rw [yes] at q
        exact q G sG
    | non => exact iteT q0
    | bl b => exact iteT q0
    | int n => exact iteT q0
    | str n => exact iteT q0
    | lst a b => exact iteT q0
end
end Kn


namespace Kn
open PySem PySem.Spec PyProof.Rows L2
def sg (c : Nat) : V := .str ⟨#[c]⟩
def signDt (c : Nat) : PyData := .str ⟨#[c]⟩
def badC (c : Nat) : Bool := !decide (97 ≤ c ∧ c ≤ 122)
theorem dp_sgs {K : PySem.W.Frag} {H : Hp} : ∀ l : List Nat, DpAll K H (l.map sg) (l.map signDt)
  | [] => .nil
  | c :: r => .cons (.str _) (dp_sgs r)
theorem good_sgs : ∀ l : List Nat, (∀ c ∈ l, c < 128) → goodDs (l.map signDt) = true ∧ PyData.depthAll (l.map signDt) = 0
  | [], _ => ⟨rfl, rfl⟩
  | c :: r, h => by
    obtain ⟨a, b⟩ := good_sgs r fun z hz => h z (List.mem_cons_of_mem _ hz)
    have hc := h c (List.mem_cons_self ..)
    refine ⟨?_, ?_⟩
    · show (([c].all fun c => decide (c < 128)) && goodDs (r.map signDt)) = true
      rw [a, Bool.and_true]
      show (decide (c < 128) && true) = true
      rw [decide_eq_true hc]
      rfl
    · show max 0 (PyData.depthAll (r.map signDt)) = 0
      rw [b]
      rfl
theorem four_of {α : Type} {l : List α} (h : l.length = 4) : ∃ a b c d, l = [a, b, c, d] := by
  match l, h with
  | [a, b, c, d], _ => exact ⟨a, b, c, d, rfl⟩
theorem kind_len {ds : List PyData} (h : ds.length ≠ 4) : kindB (.tuple ds) = false := by
  match ds, h with
  | [], _ => rfl
  | [_], _ => rfl
  | [_, _], _ => rfl
  | [_, _, _], _ => rfl
  | [_, _, _, _], h => exact absurd rfl h
  | _ :: _ :: _ :: _ :: _ :: _, _ => rfl
section
variable {P : Program} {w : World} {K : PySem.W.Frag} {mg : Str → Option Value} {base : Heap}
theorem ok_label {f : Addr} {fd : FuncData} (F : Fun K "_law_is_label" "_law_is_label" (topS 26) f fd) (ml : mg "len" = none) (mi : mg "isinstance" = none) (ms : mg "str" = none) : FnOk P w K mg base CX0 1 f fd ["_law_item"] (spG K nameB) := by
  refine F.ok scLbl (fun vs H Q E h => ?_) (fun cdv A outer s H vs Q E hr h => ?_)
  · obtain ⟨v, d, rfl, _⟩ := h
    rfl
  · obtain ⟨v, d, rfl, hd, ni, q⟩ := h
    refine ⟨_, pss_cons (ps_if (PW.pt (pw_or (pt_not (pt_val (pe_callB call_isi (by rfl) mi boot_isinstance (pa_cons (pv 0) (pa_cons (pe_bltn (v := .ty "str") (by rfl) ms (by decide +kernel) rfl) pa_nil))))) (pw_or1 (pt_not (pt_chain op_le op_le pe_int (pe_callB call_len_str (by rfl) ml PySem.boot_len (pa_cons (pv 0) pa_nil)) pe_int))))) (pss_one (ps_ret pe_bl)) pss_nil)
      (pss_one (ps_ret (pe_cmpR (op_eqD hr.units) (pe_lc (own := [("_law_sign", 1)]) (g := gName 1) (by rfl) scLbl.nd (pi_str (pv 0)) (blkOk_by (own := [("_law_sign", 1)]) (N := nLbl) (sc := defScope (topS 26)) (by decide +kernel))
        (fun _ _ _ _ _ => pg_name (i := 1) scLbl.nd rfl (Or.inl rfl)) (fun _ _ _ _ _ => pts_one (pt_cmpR op_notIn_sign (pv 1) pe_str (by rfl))) (fun _ _ _ _ _ => pv 1)) (pe_lst pa_nil) (nomark _)))), ?_⟩
    have q0 := q H (Same.refl H)
    refine ⟨v, rfl, v, .ty "str", _, _, _, rfl, .ty "str", ty_of hd, kit_str, _, rfl, ?_⟩
    cases hd with
    | str x =>
      have asc : (x.cps.toList.all fun c => decide (c < 128)) = true := ni.g
      have hl := ni.slen
      have run : ∀ b : Bool, b = (decide (1 ≤ x.length) && decide (x.length ≤ 8)) → (b = false → Q (.bl false) H) := fun b e z => by
        have : nameB (.str x) = false := by
          show (decide (1 ≤ x.length) && decide (x.length ≤ 8) && lowB x) = false
          rw [← e, z, Bool.false_and]
        rw [this] at q0
        exact q0
      refine iteF ⟨_, rfl, x, rfl, Nat.le_trans hl (by decide), 1, x.length, rfl, rfl, _, rfl, ?_⟩
      by_cases one : 1 ≤ x.length
      · rw [decide_eq_true (show (1 : Int) ≤ (x.length : Nat) by omega)]
        refine iteT ⟨x.length, 8, rfl, rfl, _, rfl, ?_⟩
        by_cases big : x.length ≤ 8
        · rw [decide_eq_true (show ((x.length : Nat) : Int) ≤ 8 by omega)]
          refine iteF ?_
          refine ⟨_, rfl, x, rfl, fun D nD => ?_⟩
          refine lc_it walk_str (fun i G => Same H G ∧ G D = some (.lst (((x.cps.toList.take i).filter badC).map sg))) ⟨same_new nD, upd_same⟩ (fun _ _ _ _ => trivial) ?_ ?_
          · rintro i u G G' hi ⟨sm, eD⟩ ⟨rfl, c, hc, rfl⟩
            have hc' : x.cps.toList[i]? = some c := by rw [Array.getElem?_toList]; exact hc
            have lc : c < 128 := of_decide_eq_true (List.all_eq_true.mp asc c (List.mem_of_getElem? hc'))
            have lz : x.length = x.cps.toList.length := by
              show x.cps.size = _
              rw [← Array.length_toList]
            have et : (x.cps.toList.take (i + 1)).filter badC = (x.cps.toList.take i).filter badC ++ (if badC c = true then [c] else []) := by
              rw [List.take_add_one, hc', List.filter_append]
              show _ ++ [c].filter badC = _
              rw [List.filter_cons]
              cases badC c <;> rfl
            refine ⟨rfl, ?_⟩
            refine ⟨_, rfl, c, _, rfl, rfl, _, rfl, ?_⟩
            rw [az_in c lc]
            cases z : (!decide (97 ≤ c ∧ c ≤ 122))
            · refine iteF ⟨sm, ?_⟩
              rw [et, show badC c = false from z]
              simpa using eD
            · refine iteT ⟨_, rfl, _, eD, ?_, putS sm nD, ?_⟩
              · have h2 := List.length_filter_le badC (x.cps.toList.take i)
                rw [List.length_take] at h2
                rw [List.length_map]
                exact small' (by omega)
              · rw [upd_same, et, show badC c = true from z, List.map_append]
                rfl
          · rintro G ⟨sm, eD⟩
            have full : x.cps.toList.take x.cps.size = x.cps.toList := List.take_of_length_le (by rw [Array.length_toList]; exact Nat.le_refl _)
            rw [full] at eD
            refine ⟨Nat.zero_le _, fun l2 n2 => ?_⟩
            have s2 := same_new (o := .lst []) n2
            obtain ⟨g1, g2⟩ := good_sgs (x.cps.toList.filter badC) fun c hc => of_decide_eq_true (List.all_eq_true.mp asc c (List.mem_filter.mp hc).1)
            refine ⟨.list ((x.cps.toList.filter badC).map signDt), .list [], .lst (.inl (.inl (s2 _ _ eD))) (dp_sgs _), .lst (.inl (.inl upd_same)) .nil, good_shaped g1 (by show PyData.depthAll _ + 1 ≤ 64; omega), rfl, ?_⟩
            have e : nameB (.str x) = PyData.eqv (.list ((x.cps.toList.filter badC).map signDt)) (.list []) := by
              rw [eqv_nil2]
              show (decide (1 ≤ x.length) && decide (x.length ≤ 8) && lowB x) = _
              rw [decide_eq_true one, decide_eq_true big, Bool.true_and, Bool.true_and]
              have e3 := filter_none (fun c => decide (97 ≤ c ∧ c ≤ 122)) x.cps.toList
              unfold lowB
              rw [← e3]
              show (x.cps.toList.filter badC).isEmpty = _
              rw [List.isEmpty_map]
            rw [e] at q
            exact q _ (sm.trans s2)
        · rw [decide_eq_false (show ¬ ((x.length : Nat) : Int) ≤ 8 by omega)]
          exact iteT (run false (by rw [decide_eq_false big, Bool.and_false]) rfl)
      · rw [decide_eq_false (show ¬ (1 : Int) ≤ (x.length : Nat) by omega)]
        refine iteF ⟨_, rfl, iteT (run false (by rw [decide_eq_false one, Bool.false_and]) rfl)⟩
    | non => exact iteT q0
    | bl b => exact iteT q0
    | int n => exact iteT q0
    | lst a b => exact iteT q0
    | tup a b => exact iteT q0
end
end Kn


namespace Kn
open PySem PySem.Spec PyProof.Rows L2
abbrev nEntry : List Str := ["_law_item"]
theorem scEntry : FnScope nEntry ["_law_item"] (defScope (topS 28)) := ⟨rfl, rfl, rfl, by decide +kernel, rfl, by decide +kernel, by decide +kernel⟩
theorem boolB_is {d : PyData} : PySem.W.kitOne ([] : PySem.W.Frag) (.type (tyName d)) (.type "bool") = some (boolB d) := kit_bool
section
variable {P : Program} {w : World} {K : PySem.W.Frag} {mg : Str → Option Value} {base : Heap}
theorem ok_row {f fL : Addr} {fd dL : FuncData} (F : Fun K "_law_is_row" "_law_is_row" (topS 27) f fd) (L : Def K mg "_law_is_label" 26 ["_law_item"] fL dL) (OL : FnOk P w K mg base CX0 1 fL dL ["_law_item"] (spG K nameB))
    (mi : mg "isinstance" = none) (mt : mg "tuple" = none) (ml : mg "len" = none) (mr : mg "range" = none) : FnOk P w K mg base CX0 2 f fd ["_law_item"] (spG K rowB) := by
  refine F.ok scRow (fun vs H Q E h => ?_) (fun cdv A outer s H vs Q E hr h => ?_)
  · obtain ⟨v, d, rfl, _⟩ := h
    rfl
  · obtain ⟨v, d, rfl, hd, ni, q⟩ := h
    refine ⟨_, pss_cons (ps_if (PW.pt (pw_or (pt_not (pt_val (pe_callB call_isi (by rfl) mi boot_isinstance (pa_cons (pv 0) (pa_cons (pe_bltn (v := .ty "tuple") (by rfl) mt (by decide +kernel) rfl) pa_nil)))))
        (pw_or1 (pt_cmpR (op_neD hr.units) (pe_lc (own := [("_law_one", 1)]) (g := gName 1) (by rfl) scRow.nd (pi_tup (pv 0)) (blkOk_by (own := [("_law_one", 1)]) (N := nRow) (sc := defScope (topS 27)) (by decide +kernel))
          (fun _ _ _ _ _ => pg_name (i := 1) scRow.nd rfl (Or.inl rfl)) (fun _ _ _ _ _ => pts_one (pt_not (pt_val (pe_call OL hr (by rfl) L.m L.F.kp L.b .nil pass0 (pa_cons (pv 1) pa_nil))))) (fun _ _ _ _ _ => pv 1)) (pe_lst pa_nil) (nomark _))))) (pss_one (ps_ret pe_bl)) pss_nil)
      (pss_one (ps_ret (pe_cmpR (op_eqD hr.units) (pe_lc (own := [("_law_k", 2)]) (g := gName 2) (by rfl) scRow.nd (pi_range2 (by rfl) mr (pa_cons pe_int (pa_cons (pe_callB call_len_seq (by rfl) ml PySem.boot_len (pa_cons (pv 0) pa_nil)) pa_nil))) (blkOk_by (own := [("_law_k", 2)]) (N := nRow) (sc := defScope (topS 27)) (by decide +kernel))
        (fun _ _ _ _ _ => pg_name (i := 2) scRow.nd rfl (Or.inl rfl)) (fun _ _ _ _ _ => pts_one (pt_cmpR op_le_str (pe_ix (r := rIxT K) ix_tup (pv 0) (pv 2) (fun _ _ => rfl)) (pe_ix (r := rIxT K) ix_tup (pv 0) (pe_op op_sub (pv 2) pe_int) (fun _ _ => rfl)) (by rfl))) (fun _ _ _ _ _ => pv 2)) (pe_lst pa_nil) (nomark _)))), ?_⟩
    have q0 := q H (Same.refl H)
    refine ⟨v, rfl, v, .ty "tuple", _, _, _, rfl, .ty "tuple", ty_of hd, kit_tup, _, rfl, ?_⟩
    cases hd with
    | tup hT hds =>
      rename_i p xs ds
      have lx := dsLen hds
      have few := ni.len
      have gds : goodDs ds = true := ni.tm.g
      have dds := ni.tm.d
      refine iteF ?_
      dsimp only [tTest, tOp]
      refine lc_filtT (K := K) (a := p) (xs := xs) (fun d => !nameB d) ds hT hds (by omega) (fun R k => ⟨_, rfl, k⟩) (fun v => rfl) ?_ ?_ ?_
      · intro i x d G R hx hdi dp sm k
        refine ⟨x, rfl, x, d, rfl, dp, ni.get hdi, fun G' s' => ⟨_, rfl, k G' s'⟩⟩
      · exact fun x G R k => ⟨_, rfl, k⟩
      · intro D ws G nD sm eD hw
        refine ⟨Nat.zero_le _, fun l2 n2 => ?_⟩
        have s2 := same_new (o := .lst []) n2
        have sm2 := sm.trans s2
        refine ⟨.list (ds.filter fun d => !nameB d), .list [], .lst (.inl (.inl (s2 _ _ eD))) (dsKeep s2 hw), .lst (.inl (.inl upd_same)) .nil, good_shaped (goodFilter _ gds) (by show PyData.depthAll _ + 1 ≤ 64; have := depthFilter (fun d => !nameB d) ds; omega), rfl, ?_⟩
        rw [eqv_nil2, filter_none nameB ds]
        refine ⟨_, rfl, ?_⟩
        have split := row_split ds
        cases z : ds.all nameB
        · refine iteT ?_
          rw [split, z, Bool.false_and] at q
          exact q _ sm2
        · refine iteF ?_
          rw [split, z, Bool.true_and] at q
          generalize upd G l2 (.lst []) = G2 at sm2 ⊢
          have hT2 := tupS sm2 hT
          dsimp only [tRet, tNext]
          refine ⟨.ref p, rfl, p, xs, rfl, .inr hT2, 1, (xs.length : Nat), rfl, ⟨by decide, by decide, by omega, by omega⟩, fun D3 n3 => ?_⟩
          have bad : Nat → Bool := fun j => !ltD (ds.getD j .none) (ds.getD (j + 1) .none)
          refine lc_range (lo := 1) (n := (((xs.length : Nat) : Int) - 1).toNat) (fun i Y => Same G2 Y ∧ Y D3 = some (.lst (((List.range i).filter fun j => !ltD (ds.getD j .none) (ds.getD (j + 1) .none)).map fun j => V.int (1 + (j : Nat))))) ⟨same_new n3, upd_same⟩ ?_ ?_
          · rintro i Y hi ⟨sY, eY⟩
            have hi1 : i + 1 < ds.length := by omega
            have h0 : ds[i]? = some ds[i] := List.getElem?_eq_getElem (by omega)
            have h1 : ds[i + 1]? = some ds[i + 1] := List.getElem?_eq_getElem hi1
            have x0 : xs[i]? = some xs[i] := List.getElem?_eq_getElem (by omega)
            have x1 : xs[i + 1]? = some xs[i + 1] := List.getElem?_eq_getElem (by omega)
            obtain ⟨d0, hd0, dp0⟩ := dsAt hds i _ x0
            obtain ⟨d1, hd1, dp1⟩ := dsAt hds (i + 1) _ x1
            obtain ⟨y0, rfl⟩ := name_str (List.all_eq_true.mp z d0 (List.mem_of_getElem? hd0))
            obtain ⟨y1, rfl⟩ := name_str (List.all_eq_true.mp z d1 (List.mem_of_getElem? hd1))
            generalize xs[i] = v0 at x0 dp0
            generalize xs[i + 1] = v1 at x1 dp1
            cases dp0
            cases dp1
            have hTY := tupS sY hT2
            have key : (!ltD (ds.getD i .none) (ds.getD (i + 1) .none)) = !decide (y0.cps.toList < y1.cps.toList) := by
              rw [gd_at hd0, gd_at hd1]
              rfl
            have et : ((List.range (i + 1)).filter fun j => !ltD (ds.getD j .none) (ds.getD (j + 1) .none)) = ((List.range i).filter fun j => !ltD (ds.getD j .none) (ds.getD (j + 1) .none)) ++ (if (!decide (y0.cps.toList < y1.cps.toList)) = true then [i] else []) := by
              rw [List.range_succ, List.filter_append]
              show _ ++ [i].filter _ = _
              rw [List.filter_cons, key]
              cases decide (y0.cps.toList < y1.cps.toList) <;> rfl
            refine ⟨rfl, ?_⟩
            refine ⟨.ref p, rfl, _, rfl, p, xs, _, .str y1, rfl, rfl, hTY, at_i (j := i + 1) (by omega) x1, .ref p, rfl, _, rfl, _, 1, rfl, rfl, p, xs, _, .str y0, rfl, rfl, hTY, at_i (j := i) (by omega) x0, y1, y0, rfl, rfl, _, rfl, ?_⟩
            cases zz : decide (y0.cps.toList < y1.cps.toList)
            · refine iteT ⟨_, rfl, _, eY, ?_, putS sY n3, ?_⟩
              · rw [List.length_map]
                have h2 := List.length_filter_le (fun j => !ltD (ds.getD j .none) (ds.getD (j + 1) .none)) (List.range i)
                rw [List.length_range] at h2
                exact small' (by omega)
              · rw [upd_same, et, zz, List.map_append]
                rfl
            · refine iteF ⟨sY, ?_⟩
              rw [et, zz]
              simpa using eY
          · rintro Y ⟨sY, eY⟩
            refine ⟨Nat.zero_le _, fun l4 n4 => ?_⟩
            have s4 := same_new (o := .lst []) n4
            have nn : (((xs.length : Nat) : Int) - 1).toNat = ds.length - 1 := by omega
            rw [nn] at eY
            have numbs : ∀ l : List Nat, DpAll K (upd Y l4 (.lst [])) (l.map fun j => V.int (1 + (j : Nat))) (l.map fun j => PyData.int (1 + (j : Nat))) := by
              intro l
              induction l with
              | nil => exact .nil
              | cons a r ih => exact .cons (.int _) ih
            have gi : ∀ l : List Nat, (∀ j ∈ l, j < 1000) → goodDs (l.map fun j => PyData.int (1 + (j : Nat))) = true ∧ PyData.depthAll (l.map fun j => PyData.int (1 + (j : Nat))) = 0 := by
              intro l
              induction l with
              | nil => exact fun _ => ⟨rfl, rfl⟩
              | cons a r ih =>
                intro h
                obtain ⟨i1, i2⟩ := ih fun z hz => h z (List.mem_cons_of_mem _ hz)
                have ha := h a (List.mem_cons_self ..)
                refine ⟨?_, ?_⟩
                · show (decide ((1 + ((a : Nat) : Int)).natAbs < 10 ^ 60) && goodDs _) = true
                  rw [i1, Bool.and_true]
                  exact decide_eq_true (Nat.lt_of_le_of_lt (show (1 + ((a : Nat) : Int)).natAbs ≤ 1000 by omega) (by decide))
                · show max 0 (PyData.depthAll _) = 0
                  rw [i2]
                  rfl
            obtain ⟨g1, g2⟩ := gi ((List.range (ds.length - 1)).filter fun j => !ltD (ds.getD j .none) (ds.getD (j + 1) .none)) fun j hj => by
              have := List.mem_range.mp (List.mem_filter.mp hj).1
              omega
            refine ⟨_, .list [], .lst (.inl (.inl (s4 _ _ eY))) (numbs _), .lst (.inl (.inl upd_same)) .nil, good_shaped g1 (by show PyData.depthAll _ + 1 ≤ 64; omega), rfl, ?_⟩
            rw [eqv_nil2, List.isEmpty_map, filter_none (fun j => ltD (ds.getD j .none) (ds.getD (j + 1) .none))]
            exact q _ ((sm2.trans sY).trans s4)
    | non => exact iteT q0
    | bl b => exact iteT q0
    | int n => exact iteT q0
    | str n => exact iteT q0
    | lst a b => exact iteT q0
end
end Kn


namespace Kn
open PySem PySem.Spec PyProof.Rows L2
theorem nice4 {a b c d : PyData} (h : Nice (.tuple [a, b, c, d])) : Nice a ∧ Nice b ∧ Nice c ∧ Nice d := ⟨h.get (i := 0) rfl, h.get (i := 1) rfl, h.get (i := 2) rfl, h.get (i := 3) rfl⟩
theorem kit_boolB {K : PySem.W.Frag} {d : PyData} : PySem.W.kitOne K (.type (tyName d)) (.type "bool") = some (boolB d) := kit_bool
section
variable {P : Program} {w : World} {K : PySem.W.Frag} {mg : Str → Option Value} {base : Heap}
theorem ok_kind {f fN fP fT : Addr} {fd dN dP dT : FuncData} (F : Fun K "is_kind" "is_kind" (topS 8) f fd) (N : Def K mg "is_name" 6 ["thing"] fN dN) (ON : FnOk P w K mg base CX0 1 fN dN ["thing"] (spG K nameB))
    (B : Def K mg "is_positive" 5 ["thing"] fP dP) (OB : FnOk P w K mg base CX0 2 fP dP ["thing"] (spB K posB)) (T : Def K mg "is_table" 7 ["thing"] fT dT) (OT : FnOk P w K mg base CX0 2 fT dT ["thing"] (spG K rowB))
    (mi : mg "isinstance" = none) (mt : mg "tuple" = none) (ml : mg "len" = none) (mb : mg "bool" = none) : FnOk P w K mg base CX0 3 f fd ["thing"] (spG K kindB) := by
  refine F.ok scKind (fun vs H Q E h => ?_) (fun cdv A outer s H vs Q E hr h => ?_)
  · obtain ⟨v, d, rfl, _⟩ := h
    rfl
  · obtain ⟨v, d, rfl, hd, ni, q⟩ := h
    have hr1 : Room 1 _ := hr.mono (by decide)
    refine ⟨_, pss_cons (ps_if (PW.pt (pw_or (pt_not (pt_val (pe_callB call_isi (by rfl) mi boot_isinstance (pa_cons (pv 0) (pa_cons (pe_bltn (v := .ty "tuple") (by rfl) mt (by decide +kernel) rfl) pa_nil)))))
        (pw_or1 (pt_cmpR op_ne (pe_callB call_len_seq (by rfl) ml PySem.boot_len (pa_cons (pv 0) pa_nil)) pe_int (nomark _))))) (pss_one (ps_ret pe_bl)) pss_nil)
      (pss_cons (ps_asg (pv 0) (pg_tup (by rfl) (pgs_cons (pg_name (i := 1) scKind.nd rfl (.inl rfl)) (pgs_cons (pg_name (i := 2) scKind.nd rfl (.inl rfl)) (pgs_cons (pg_name (i := 3) scKind.nd rfl (.inl rfl)) (pgs_cons (pg_name (i := 4) scKind.nd rfl (.inl rfl)) pgs_nil))))))
      (pss_one (ps_ret (pe_and (pe_call ON hr1 (by rfl) N.m N.F.kp N.b .nil pass0 (pa_cons (pv 1) pa_nil)) (pe_and (pe_call OB hr (by rfl) B.m B.F.kp B.b .nil pass0 (pa_cons (pv 2) pa_nil))
        (pe_and (pe_callB call_isi (by rfl) mi boot_isinstance (pa_cons (pv 3) (pa_cons (pe_bltn (v := .ty "bool") (by rfl) mb (by decide +kernel) rfl) pa_nil))) (pe_one (pe_call OT hr (by rfl) T.m T.F.kp T.b .nil pass0 (pa_cons (pv 4) pa_nil))))))))), ?_⟩
    have q0 := q H (Same.refl H)
    refine ⟨v, rfl, v, .ty "tuple", _, _, _, rfl, .ty "tuple", ty_of hd, kit_tup, _, rfl, ?_⟩
    cases hd with
    | tup hT hds =>
      rename_i p xs ds
      have lx := dsLen hds
      refine iteF ⟨_, rfl, p, xs, rfl, .inr hT, rfl, _, rfl, ?_⟩
      by_cases four : ds.length = 4
      · rw [decide_eq_true (show V.int (xs.length : Nat) = V.int 4 by rw [lx, four]; rfl)]
        refine iteF ?_
        obtain ⟨a, b, c, d, rfl⟩ := four_of four
        obtain ⟨va, vb, vc, vd, rfl⟩ := four_of (lx.trans four)
        cases hds with
        | cons ha hds =>
          cases hds with
          | cons hb hds =>
            cases hds with
            | cons hc hds =>
              cases hds with
              | cons hd _ =>
                obtain ⟨na, nb, nc, nd⟩ := nice4 ni
                refine ⟨_, rfl, p, _, rfl, hT, rfl, _, _, rfl, _, _, rfl, _, _, rfl, _, _, rfl, rfl, ?_⟩
                have e : kindB (.tuple [a, b, c, d]) = (nameB a && posB b && boolB c && rowB d) := rfl
                rw [e] at q
                refine ⟨va, rfl, va, a, rfl, ha, na, fun G1 s1 => ⟨_, rfl, ?_⟩⟩
                cases z1 : nameB a
                · rw [z1] at q
                  exact iteF (q G1 s1)
                · rw [z1, Bool.true_and] at q
                  refine iteT ⟨vb, rfl, vb, b, rfl, dKeep s1 hb, _, rfl, ?_⟩
                  cases z2 : posB b
                  · rw [z2] at q
                    exact iteF (q G1 s1)
                  · rw [z2, Bool.true_and] at q
                    refine iteT ⟨vc, rfl, vc, .ty "bool", _, _, _, rfl, .ty "bool", ty_of (dKeep s1 hc), kit_bool, _, rfl, ?_⟩
                    cases z3 : boolB c
                    · rw [z3] at q
                      exact iteF (q G1 s1)
                    · rw [z3, Bool.true_and] at q
                      exact iteT ⟨vd, rfl, vd, d, rfl, dKeep s1 hd, nd, fun G2 s2 => q G2 (s1.trans s2)⟩
      · rw [decide_eq_false (show ¬ V.int (xs.length : Nat) = V.int 4 from fun z => four (by have := V.int.inj z; omega))]
        rw [kind_len four] at q0
        exact iteT q0
    | non => exact iteT q0
    | bl b => exact iteT q0
    | int n => exact iteT q0
    | str n => exact iteT q0
    | lst a b => exact iteT q0
theorem ok_entry {f fN fW fT : Addr} {fd dN dW dT : FuncData} (F : Fun K "_law_is_entry" "_law_is_entry" (topS 28) f fd) (N : Def K mg "_law_is_label" 26 ["_law_item"] fN dN) (ON : FnOk P w K mg base CX0 1 fN dN ["_law_item"] (spG K nameB))
    (B : Def K mg "_law_is_whole" 25 ["_law_item"] fW dW) (OB : FnOk P w K mg base CX0 1 fW dW ["_law_item"] (spB K intB)) (T : Def K mg "_law_is_row" 27 ["_law_item"] fT dT) (OT : FnOk P w K mg base CX0 2 fT dT ["_law_item"] (spG K rowB))
    (mi : mg "isinstance" = none) (mt : mg "tuple" = none) (ml : mg "len" = none) (mb : mg "bool" = none) : FnOk P w K mg base CX0 3 f fd ["_law_item"] (spG K kindB) := by
  refine F.ok scEntry (fun vs H Q E h => ?_) (fun cdv A outer s H vs Q E hr h => ?_)
  · obtain ⟨v, d, rfl, _⟩ := h
    rfl
  · obtain ⟨v, d, rfl, hd, ni, q⟩ := h
    have hr1 : Room 1 _ := hr.mono (by decide)
    refine ⟨_, pss_cons (ps_if (PW.pt (pw_or (pt_not (pt_val (pe_callB call_isi (by rfl) mi boot_isinstance (pa_cons (pv 0) (pa_cons (pe_bltn (v := .ty "tuple") (by rfl) mt (by decide +kernel) rfl) pa_nil)))))
        (pw_or (pt_cmpR op_ne (pe_callB call_len_seq (by rfl) ml PySem.boot_len (pa_cons (pv 0) pa_nil)) pe_int (nomark _)) (pw_or1 (pt_not (pt_val (pe_call ON hr1 (by rfl) N.m N.F.kp N.b .nil pass0 (pa_cons (pe_ix ix_tup (pv 0) pe_int (fun _ _ => rfl)) pa_nil)))))))) (pss_one (ps_ret pe_bl)) pss_nil)
      (pss_one (ps_ret (pe_and (pe_call OB hr1 (by rfl) B.m B.F.kp B.b .nil pass0 (pa_cons (pe_ix ix_tup (pv 0) pe_int (fun _ _ => rfl)) pa_nil)) (pe_and (pe_cmpR op_ge (pe_ix ix_tup (pv 0) pe_int (fun _ _ => rfl)) pe_int (nomark _))
        (pe_and (pe_callB call_isi (by rfl) mi boot_isinstance (pa_cons (pe_ix ix_tup (pv 0) pe_int (fun _ _ => rfl)) (pa_cons (pe_bltn (v := .ty "bool") (by rfl) mb (by decide +kernel) rfl) pa_nil))) (pe_one (pe_call OT hr (by rfl) T.m T.F.kp T.b .nil pass0 (pa_cons (pe_ix ix_tup (pv 0) pe_int (fun _ _ => rfl)) pa_nil)))))))), ?_⟩
    have q0 := q H (Same.refl H)
    refine ⟨v, rfl, v, .ty "tuple", _, _, _, rfl, .ty "tuple", ty_of hd, kit_tup, _, rfl, ?_⟩
    cases hd with
    | tup hT hds =>
      rename_i p xs ds
      have lx := dsLen hds
      refine iteF ⟨_, rfl, p, xs, rfl, .inr hT, rfl, _, rfl, ?_⟩
      by_cases four : ds.length = 4
      · rw [decide_eq_true (show V.int (xs.length : Nat) = V.int 4 by rw [lx, four]; rfl)]
        refine iteF ?_
        obtain ⟨a, b, c, d, rfl⟩ := four_of four
        obtain ⟨va, vb, vc, vd, rfl⟩ := four_of (lx.trans four)
        cases hds with
        | cons ha hds =>
          cases hds with
          | cons hb hds =>
            cases hds with
            | cons hc hds =>
              cases hds with
              | cons hd _ =>
                obtain ⟨na, nb, nc, nd⟩ := nice4 ni
                have e : kindB (.tuple [a, b, c, d]) = (nameB a && posB b && boolB c && rowB d) := rfl
                rw [e] at q
                refine ⟨.ref p, rfl, p, _, 0, va, rfl, rfl, hT, atI_nat (j := 0) rfl, va, a, rfl, ha, na, fun G1 s1 => ⟨_, rfl, ?_⟩⟩
                have hT1 := tupS s1 hT
                cases z1 : nameB a
                · rw [z1] at q
                  exact iteT (q G1 s1)
                · rw [z1, Bool.true_and] at q
                  refine iteF ⟨.ref p, rfl, p, _, 1, vb, rfl, rfl, hT1, atI_nat (j := 1) rfl, vb, b, rfl, dKeep s1 hb, _, rfl, ?_⟩
                  have hb1 := dKeep s1 hb
                  cases hb1 with
                  | int n =>
                    refine iteT ⟨.ref p, rfl, p, _, 1, .int n, rfl, rfl, hT1, atI_nat (j := 1) rfl, n, 1, rfl, rfl, _, rfl, ?_⟩
                    have e2 : posB (.int n) = decide (1 ≤ n) := rfl
                    rw [e2] at q
                    cases z2 : decide (1 ≤ n)
                    · rw [z2] at q
                      exact iteF (q G1 s1)
                    · rw [z2, Bool.true_and] at q
                      refine iteT ⟨.ref p, rfl, p, _, 2, vc, rfl, rfl, hT1, atI_nat (j := 2) rfl, vc, .ty "bool", _, _, _, rfl, .ty "bool", ty_of (dKeep s1 hc), kit_bool, _, rfl, ?_⟩
                      cases z3 : boolB c
                      · rw [z3] at q
                        exact iteF (q G1 s1)
                      · rw [z3, Bool.true_and] at q
                        exact iteT ⟨.ref p, rfl, p, _, 3, vd, rfl, rfl, hT1, atI_nat (j := 3) rfl, vd, d, rfl, dKeep s1 hd, nd, fun G2 s2 => q G2 (s1.trans s2)⟩
                  | non => exact iteF (q G1 s1)
                  | bl n => exact iteF (q G1 s1)
                  | str n => exact iteF (q G1 s1)
                  | lst x y => exact iteF (q G1 s1)
                  | tup x y => exact iteF (q G1 s1)
      · rw [decide_eq_false (show ¬ V.int (xs.length : Nat) = V.int 4 from fun z => four (by have := V.int.inj z; omega))]
        rw [kind_len four] at q0
        exact iteT q0
    | non => exact iteT q0
    | bl b => exact iteT q0
    | int n => exact iteT q0
    | str n => exact iteT q0
    | lst a b => exact iteT q0
end
end Kn


namespace Kn
open PySem PySem.Spec PyProof.Rows L2
abbrev nWk : List Str := ["kinds", "i", "kind"]
theorem scWk : FnScope nWk ["kinds"] (defScope (topS 9)) := ⟨rfl, rfl, rfl, by decide +kernel, rfl, by decide +kernel, by decide +kernel⟩
theorem kind_parts {d : PyData} (h : kindB d = true) : ∃ x f b ts, d = .tuple [.str x, .int f, .bool b, .tuple ts] ∧ nameB (.str x) = true ∧ 1 ≤ f ∧ rowB (.tuple ts) = true := by
  cases d with
  | tuple ds =>
    by_cases four : ds.length = 4
    · obtain ⟨n, f, b, t, rfl⟩ := four_of four
      have e : (nameB n && posB f && boolB b && rowB t) = true := h
      obtain ⟨e, e4⟩ := Bool.and_eq_true_iff.mp e
      obtain ⟨e, e3⟩ := Bool.and_eq_true_iff.mp e
      obtain ⟨e1, e2⟩ := Bool.and_eq_true_iff.mp e
      obtain ⟨x, rfl⟩ := name_str e1
      cases f with
      | int f =>
        cases b with
        | bool b =>
          cases t with
          | tuple ts => exact ⟨x, f, b, ts, rfl, e1, of_decide_eq_true e2, e4⟩
          | _ => cases e4
        | _ => cases e3
      | _ => cases e2
    · rw [kind_len four] at h
      cases h
  | _ => cases h
/-- the first place at which it does not hold -/
def First (f : Nat → Bool) (n i : Nat) : Prop := i < n ∧ f i = false ∧ ∀ k, k < i → f k = true
theorem first_or (f : Nat → Bool) : ∀ n, (∃ i, First f n i) ∨ ∀ k, k < n → f k = true
  | 0 => .inr fun k h => absurd h (Nat.not_lt_zero k)
  | n + 1 => by
    rcases first_or f n with ⟨i, a, b, c⟩ | h
    · exact .inl ⟨i, by omega, b, c⟩
    · cases z : f n
      · exact .inl ⟨n, by omega, z, h⟩
      · refine .inr fun k hk => ?_
        rcases Nat.lt_succ_iff_lt_or_eq.mp hk with hk | rfl
        · exact h k hk
        · exact z
def spWk (K : PySem.W.Frag) : Sp := fun vs H Q _ => ∃ (v : V) (ds : List PyData), vs = [v] ∧ Dp K H v (.tuple ds) ∧ Nice (.tuple ds) ∧
  (∀ i, First (kindAt ds) ds.length i → ∀ H', Same H H' → Q (.int (i : Nat)) H') ∧ ((∀ k, k < ds.length → kindAt ds k = true) → ∀ H', Same H H' → Q .non H')
section
variable {P : Program} {w : World} {K : PySem.W.Frag} {mg : Str → Option Value} {base : Heap}
theorem ok_wk {f fN : Addr} {fd dN : FuncData} (F : Fun K "wrong_kind" "wrong_kind" (topS 9) f fd) (N : Def K mg "is_kind" 8 ["thing"] fN dN) (ON : FnOk P w K mg base CX0 3 fN dN ["thing"] (spG K kindB)) (me : mg "enumerate" = none) :
    FnOk P w K mg base CX0 4 f fd ["kinds"] (spWk K) := by
  refine F.ok scWk (fun vs H Q E h => ?_) (fun cdv A outer s H vs Q E hr h => ?_)
  · obtain ⟨v, d, rfl, _⟩ := h
    rfl
  · obtain ⟨v, ds, rfl, hd, ni, qb, qg⟩ := h
    refine ⟨_, pss_cons (ps_for PassesOwn.never rfl (En.pi_enT (by rfl) me (pa_cons (pv 0) pa_nil)) (pg_tup (by rfl) (pgs_cons (pg_name (i := 1) scWk.nd rfl (.inl rfl)) (pgs_cons (pg_name (i := 2) scWk.nd rfl (.inl rfl)) pgs_nil)))
        (pss_cons (ps_if (pt_not (pt_val (pe_call ON hr (by rfl) N.m N.F.kp N.b .nil pass0 (pa_cons (pv 2) pa_nil)))) (pss_one (ps_ret (pv 1))) pss_nil)
        (pss_one (ps_if (PW.pt (pw_and (pt_cmpR op_gt (pv 1) pe_int (nomark _)) (pw_and1 (pt_cmpR op_ge_str (pe_ix ix_tup (pe_ix ix_tup (pv 0) (pe_op op_sub (pv 1) pe_int) (fun _ _ => rfl)) pe_int (fun _ _ => rfl)) (pe_ix ix_tup (pv 2) pe_int (fun _ _ => rfl)) (by rfl))))) (pss_one (ps_ret (pv 1))) pss_nil))))
      (pss_one (ps_ret pe_non)), ?_⟩
    obtain ⟨p, xs, rfl, hT, hds, lx⟩ := tupD hd
    refine ⟨.ref p, rfl, p, xs, rfl, hT, for_it En.walk_enT (fun i σ G => ∃ y1 y2, σ = [some (.ref p), y1, y2] ∧ Same H G ∧ ∀ k, k < i → kindAt ds k = true) ⟨none, none, rfl, Same.refl H, fun k hk => absurd hk (Nat.not_lt_zero k)⟩ (fun i σ G _ ⟨_, _, _, s, _⟩ => tupS s hT) ?_ ?_⟩
    · rintro i x σ G G' hi ⟨y1, y2, rfl, sG, old⟩ ⟨T, k, u, rfl, nT, rfl, hk, hv⟩
      obtain rfl : V.int (i : Nat) = k := Option.some.inj hk
      obtain ⟨d, hdi, dp⟩ := dsAt hds i u hv
      have sN := putS (o := .tup [V.int (i : Nat), u]) sG (sG.free nT)
      refine ⟨T, _, rfl, .inl (.inl upd_same), rfl, _, _, rfl, _, _, rfl, rfl, ?_⟩
      refine ⟨u, rfl, u, d, rfl, dKeep sN dp, ni.get hdi, fun G2 s2 => ⟨_, rfl, ?_⟩⟩
      have sN2 := sN.trans s2
      have hi' : i < ds.length := by omega
      have at_ : kindAt ds i = (kindB d && (i == 0 || ltD (part (ds.getD (i - 1) .none) 0) (part d 0))) := by
        show (kindB (ds.getD i .none) && (i == 0 || ltD (part (ds.getD (i - 1) .none) 0) (part (ds.getD i .none) 0))) = _
        rw [gd_at hdi]
      cases z : kindB d
      · refine iteT ⟨_, rfl, ?_⟩
        exact qb i ⟨hi', by rw [at_, z, Bool.false_and], old⟩ G2 sN2
      · refine iteF ?_
        refine ⟨_, rfl, (i : Nat), 0, rfl, rfl, _, rfl, ite2 (fun c => ?_) (fun c => ?_)⟩
        · have c0 : 0 < i := by
            have := of_decide_eq_true c
            omega
          obtain ⟨j, rfl⟩ : ∃ j, i = j + 1 := ⟨i - 1, by omega⟩
          have hj : j < ds.length := by omega
          have hxj : xs[j]? = some xs[j] := List.getElem?_eq_getElem (by omega)
          obtain ⟨dj, hdj, dpj⟩ := dsAt hds j _ hxj
          have okj := (Bool.and_eq_true_iff.mp (old j (by omega))).1
          rw [gd_at hdj] at okj
          obtain ⟨xj, fj, bj, tj, rfl, _⟩ := kind_parts okj
          obtain ⟨xi, fi, bi, ti, rfl, _⟩ := kind_parts z
          generalize xs[j] = vj at hxj dpj
          obtain ⟨pj, zj, rfl, hTj, hdsj, _⟩ := tupD dpj
          obtain ⟨pi, zi, rfl, hTi, hdsi, _⟩ := tupD dp
          cases hdsj with
          | cons aj _ =>
            cases hdsi with
            | cons ai _ =>
              cases aj
              cases ai
              refine ⟨.ref p, rfl, _, rfl, ((j + 1 : Nat) : Int), 1, rfl, rfl, p, xs, _, .ref pj, rfl, rfl, tupS sN2 hT, at_i (j := j) (by omega) hxj, pj, _, 0, .str xj, rfl, rfl, tupS sN2 hTj, atI_nat (j := 0) rfl, .ref pi, rfl, pi, _, 0, .str xi, rfl, rfl, tupS sN2 hTi, atI_nat (j := 0) rfl, xj, xi, rfl, rfl, _, rfl, ?_⟩
              have key : kindAt ds (j + 1) = decide (xj.cps.toList < xi.cps.toList) := by
                rw [at_, z]
                show (true && (false || ltD (part (ds.getD j .none) 0) (.str xi))) = _
                rw [gd_at hdj]
                rfl
              cases lt : decide (xj.cps.toList < xi.cps.toList)
              · exact iteT ⟨_, rfl, qb (j + 1) ⟨hi', by rw [key, lt], old⟩ G2 sN2⟩
              · refine iteF ⟨_, _, rfl, sN2, fun k hk => ?_⟩
                rcases Nat.lt_succ_iff_lt_or_eq.mp hk with hk | rfl
                · exact old k hk
                · rw [key, lt]
        · have i0 : i = 0 := by
            have : ¬ (0 : Int) < (i : Nat) := fun z => c (decide_eq_true z)
            omega
          subst i0
          refine iteF ⟨_, _, rfl, sN2, fun k hk => ?_⟩
          obtain rfl : k = 0 := by omega
          rw [at_, z]
          rfl
    · rintro σ G ⟨y1, y2, rfl, sG, old⟩
      exact qg (fun k hk => old k (by omega)) G sG
end
end Kn


namespace Kn
open PySem PySem.Spec PyProof.Rows L2
abbrev nWt : List Str := ["kinds", "kind", "known", "i", "name"]
theorem scWt : FnScope nWt ["kinds"] (defScope (topS 10)) := ⟨rfl, rfl, rfl, by decide +kernel, rfl, by decide +kernel, by decide +kernel⟩
abbrev nAsk : List Str := ["kinds", "thing", "kind"]
theorem scAsk : FnScope nAsk ["kinds", "thing"] (defScope (topS 11)) := ⟨rfl, rfl, rfl, by decide +kernel, rfl, by decide +kernel, by decide +kernel⟩
def strOf : PyData → Str
  | .str x => x
  | _ => Str.empty
def nameOf (d : PyData) : Str := strOf (part d 0)
def namesOf (ds : List PyData) : List Str := ds.map nameOf
def tabOf (d : PyData) : List Str := match part d 3 with
  | .tuple ts => ts.map strOf
  | _ => []
def hasOf (d : PyData) : Bool := match part d 2 with
  | .bool b => b
  | _ => false
/-- all names of the k-th kind's table are names of kinds -/
def tabAt (ds : List PyData) (k : Nat) : Bool := (tabOf (ds.getD k .none)).all fun s => decide (s ∈ namesOf ds)
def askB (ds : List PyData) (d : PyData) : Bool := ds.any fun k => PyData.eqv (part k 0) d && !hasOf k
def spWt (K : PySem.W.Frag) : Sp := fun vs H Q _ => ∃ (v : V) (ds : List PyData), vs = [v] ∧ Dp K H v (.tuple ds) ∧ Nice (.tuple ds) ∧ (∀ k, k < ds.length → kindAt ds k = true) ∧
  (∀ i, First (tabAt ds) ds.length i → ∀ H', Same H H' → Q (.int (i : Nat)) H') ∧ ((∀ k, k < ds.length → tabAt ds k = true) → ∀ H', Same H H' → Q .non H')
theorem row_names {ts : List PyData} (h : rowB (.tuple ts) = true) : ∀ t ∈ ts, ∃ x, t = .str x := by
  rw [row_split] at h
  intro t ht
  exact name_str (List.all_eq_true.mp (Bool.and_eq_true_iff.mp h).1 t ht)
theorem kindAt_kind {ds : List PyData} {k : Nat} {d : PyData} (h : kindAt ds k = true) (e : ds[k]? = some d) : kindB d = true := by
  have := (Bool.and_eq_true_iff.mp h).1
  rw [gd_at e] at this
  exact this
section
variable {P : Program} {w : World} {K : PySem.W.Frag} {mg : Str → Option Value} {base : Heap}
theorem ok_wt {f : Addr} {fd : FuncData} (F : Fun K "wrong_table" "wrong_table" (topS 10) f fd) (me : mg "enumerate" = none) (ma : mg "all" = none) :
    FnOk P w K mg base CX0 1 f fd ["kinds"] (spWt K) := by
  refine F.ok scWt (fun vs H Q E h => ?_) (fun cdv A outer s H vs Q E hr h => ?_)
  · obtain ⟨v, d, rfl, _⟩ := h
    rfl
  · obtain ⟨v, ds, rfl, hd, ni, good, qb, qg⟩ := h
    have hu := hr.units
    refine ⟨_, pss_cons (ps_set (i := 2) scWt.nd rfl (.inr rfl) (pe_dc (own := [("kind", 1)]) (g := gName 1) (by rfl) scWt.nd (pi_tup (pv 0)) (blkOk_by (own := [("kind", 1)]) (N := nWt) (sc := defScope (topS 10)) (by decide +kernel))
        (fun _ _ _ _ _ => pg_name (i := 1) scWt.nd rfl (Or.inl rfl)) (fun _ _ _ _ _ => pts_nil) (fun _ _ _ _ _ => pe_ix (r := rIxT K) ix_tup (pv 1) pe_int (fun _ _ => rfl)) (fun _ _ _ _ _ => pe_bl)))
      (pss_cons (ps_for PassesOwn.never rfl (En.pi_enT (by rfl) me (pa_cons (pv 0) pa_nil)) (pg_tup (by rfl) (pgs_cons (pg_name (i := 3) scWt.nd rfl (.inl rfl)) (pgs_cons (pg_name (i := 1) scWt.nd rfl (.inl rfl)) pgs_nil)))
        (pss_one (ps_if (pt_not (pt_val (pe_callB (cr_all (by rfl)) (by rfl) ma (by decide +kernel) (pa_cons (pe_lc (own := [("name", 4)]) (g := gName 4) (by rfl) scWt.nd (pi_tup (pe_ix ix_tup (pv 1) pe_int (fun _ _ => rfl))) (blkOk_by (own := [("name", 4)]) (N := nWt) (sc := defScope (topS 10)) (by decide +kernel))
          (fun _ _ _ _ _ => pg_name (i := 4) scWt.nd rfl (Or.inl rfl)) (fun _ _ _ _ _ => pts_nil) (fun _ _ _ _ _ => pe_cmp (pc_din (Nat.lt_of_le_of_lt (Nat.add_le_add_left (by decide) _) hu) (pv 4) (pv 2)))) pa_nil)))) (pss_one (ps_ret (pv 3))) pss_nil)))
      (pss_one (ps_ret pe_non))), ?_⟩
    obtain ⟨p, xs, rfl, hT, hds, lx⟩ := tupD hd
    have few := ni.len
    refine ⟨.ref p, rfl, p, rfl, ⟨xs, hT⟩, fun D nD => ?_⟩
    refine dc_tup (K := K) (a := p) (xs := xs) (fun i G => Same H G ∧ ∃ kvs : List (Key × V), G D = some (.dK kvs) ∧ kvs.length ≤ i ∧ ∀ s : Str, valV kvs (.inr s) = if s ∈ (namesOf ds).take i then some (.bl true) else none)
      ⟨same_new nD, [], upd_same, Nat.le_refl _, fun s => rfl⟩ (fun i G _ h => tupS h.1 hT) ?_ ?_
    · rintro i x G hx ⟨sG, kvs, eD, lk, hk⟩
      obtain ⟨d, hdi, dp⟩ := dsAt hds i x hx
      have hi : i < xs.length := (List.getElem?_eq_some_iff.mp hx).1
      obtain ⟨n, fe, b, ts, rfl, _⟩ := kind_parts (kindAt_kind (good i (by omega)) hdi)
      obtain ⟨pk, zk, rfl, hTk, hdk, _⟩ := tupD dp
      cases hdk with
      | cons an _ =>
        cases an
        refine ⟨rfl, ?_⟩
        dsimp only [tYes]
        refine iteT ⟨.ref pk, rfl, pk, _, 0, .str n, rfl, rfl, tupS sG hTk, atI_nat (j := 0) rfl, kvs, .inr n, rfl, eD, small' (by omega), putS sG nD, _, upd_same, ?_, fun s => ?_⟩
        · have := length_putK kvs (.inr n : Key) (.bl true)
          omega
        · have hn : (namesOf ds)[i]? = some n := by
            unfold namesOf
            rw [List.getElem?_map, hdi]
            rfl
          rw [valV_put, hk s, List.take_add_one, hn, Option.toList_some]
          by_cases e : s = n
          · subst e
            rw [if_pos rfl, if_pos (List.mem_append_right _ (List.mem_singleton.mpr rfl))]
          · rw [if_neg (fun z => e (Sum.inr.inj z))]
            by_cases m : s ∈ (namesOf ds).take i
            · rw [if_pos m, if_pos (List.mem_append_left _ m)]
            · rw [if_neg m, if_neg]
              intro z
              rcases List.mem_append.mp z with z | z
              · exact m z
              · exact e (List.mem_singleton.mp z)
    · rintro H1 ⟨s1, kvs, eD, lk, hk⟩
      have full : (namesOf ds).take xs.length = namesOf ds := List.take_of_length_le (by unfold namesOf; rw [List.length_map, lx]; exact Nat.le_refl _)
      rw [full] at hk
      refine ⟨.ref p, rfl, p, xs, rfl, tupS s1 hT, for_it En.walk_enT (fun i σ G => ∃ y1 y3, σ = [some (.ref p), y1, some (.ref D), y3, none] ∧ Same H1 G ∧ ∀ k, k < i → tabAt ds k = true) ⟨none, none, rfl, Same.refl H1, fun k hk => absurd hk (Nat.not_lt_zero k)⟩ (fun i σ G _ ⟨_, _, _, s, _⟩ => tupS (s1.trans s) hT) ?_ ?_⟩
      · rintro i x σ G G' hi ⟨y1, y3, rfl, sG, old⟩ ⟨T, k, u, rfl, nT, rfl, hk', hv⟩
        obtain rfl : V.int (i : Nat) = k := Option.some.inj hk'
        obtain ⟨d, hdi, dp⟩ := dsAt hds i u hv
        have hi' : i < ds.length := by omega
        have nid := ni.get hdi
        have sN := putS (o := .tup [V.int (i : Nat), u]) sG (sG.free nT)
        have sN1 := s1.trans sN
        obtain ⟨n, fe, b, ts, rfl, _, _, hr'⟩ := kind_parts (kindAt_kind (good i hi') hdi)
        obtain ⟨pk, zk, rfl, hTk, hdk, lk4⟩ := tupD dp
        obtain ⟨va, vb, vc, vd, rfl⟩ := four_of lk4
        obtain ⟨_, _, _, nts⟩ := nice4 nid
        cases hdk with
        | cons _ hdk =>
          cases hdk with
          | cons _ hdk =>
            cases hdk with
            | cons _ hdk =>
              cases hdk with
              | cons dt _ =>
                obtain ⟨pt, zt, rfl, hTt, hdt, lt⟩ := tupD dt
                have fewt := nts.len
                refine ⟨T, _, rfl, .inl (.inl upd_same), rfl, _, _, rfl, _, _, rfl, rfl, ?_⟩
                generalize upd G T (.tup [V.int (i : Nat), .ref pk]) = G1 at sN sN1 ⊢
                dsimp only [tIfS, tNot, tB, tCB, tCons]
                refine lc_mapT (K := K) (a := pt) (xs := zt) ((ts.map fun t => decide (strOf t ∈ namesOf ds)).map V.bl) (by simp; omega) (by omega) (tupS sN1 hTt) ?_ ?_ ?_ ?_
                · exact fun R k => ⟨.ref pk, rfl, pk, _, 3, .ref pt, rfl, rfl, tupS sN1 hTk, atI_nat (j := 3) rfl, k⟩
                · exact fun v => rfl
                · intro j x y G2 R hx hy sm k
                  obtain ⟨t, ht, dpt⟩ := dsAt hdt j x hx
                  obtain ⟨z, rfl⟩ := row_names hr' t (List.mem_of_getElem? ht)
                  obtain ⟨bb, hb, rfl⟩ := map_get hy
                  obtain ⟨t', ht', rfl⟩ := map_get hb
                  obtain rfl : PyData.str z = t' := Option.some.inj (ht.symm.trans ht')
                  cases dpt
                  refine ⟨_, rfl, .ref D, rfl, D, valV kvs (.inr z), rfl, .inl ⟨kvs, .inr z, .inl (sm _ _ (sN _ _ eD)), rfl, rfl⟩, ?_⟩
                  have e : (valV kvs (.inr z : Key)).isSome = decide (z ∈ namesOf ds) := by
                    rw [hk z]
                    by_cases m : z ∈ namesOf ds
                    · rw [if_pos m, decide_eq_true m]
                      rfl
                    · rw [if_neg m, decide_eq_false m]
                      rfl
                  rw [e]
                  exact k G2 (Same.refl G2)
                · intro D4 G2 n4 sm e4
                  refine ⟨D4, _, rfl, .inl (.inl e4), _, rfl, ?_⟩
                  have key : tabAt ds i = (ts.map fun t => decide (strOf t ∈ namesOf ds)).all id := by
                    show (tabOf (ds.getD i .none)).all _ = _
                    rw [gd_at hdi, List.all_map]
                    show (ts.map strOf).all _ = _
                    rw [List.all_map]
                    rfl
                  rw [← key]
                  cases zz : tabAt ds i
                  · exact iteT ⟨_, rfl, qb i ⟨hi', zz, old⟩ G2 (sN1.trans sm)⟩
                  · refine iteF ⟨_, _, rfl, sN.trans sm, fun k hk => ?_⟩
                    rcases Nat.lt_succ_iff_lt_or_eq.mp hk with hk | rfl
                    · exact old k hk
                    · exact zz
      · rintro σ G ⟨y1, y3, rfl, sG, old⟩
        exact qg (fun k hk => old k (by omega)) G (s1.trans sG)
end
end Kn


namespace Kn
open PySem PySem.Spec PyProof.Rows L2
abbrev nWeb : List Str := ["thing", "kinds", "asker"]
theorem scWeb : FnScope nWeb ["thing"] (defScope (topS 12)) := ⟨rfl, rfl, rfl, by decide +kernel, rfl, by decide +kernel, by decide +kernel⟩
def firstI (f : Nat → Bool) (n : Nat) : Option Nat := (List.range n).find? fun k => !f k
theorem firstI_of {f : Nat → Bool} {n i : Nat} (h : First f n i) : firstI f n = some i := by
  obtain ⟨h1, h2, h3⟩ := h
  unfold firstI
  rw [List.find?_range_eq_some]
  refine ⟨by rw [h2]; rfl, List.mem_range.mpr h1, fun j hj => ?_⟩
  rw [h3 j hj]
  rfl
theorem firstI_none {f : Nat → Bool} {n : Nat} (h : ∀ k, k < n → f k = true) : firstI f n = none := by
  unfold firstI
  rw [List.find?_eq_none]
  intro k hk
  rw [h k (List.mem_range.mp hk)]
  decide
def faultK (ks : List PyData) (a : PyData) : Option (Str × Int) := match firstI (kindAt ks) ks.length with
  | some i => some (("kind" : Str), ((i : Nat) : Int))
  | none => match firstI (tabAt ks) ks.length with
    | some i => some (("table" : Str), ((i : Nat) : Int))
    | none => if askB ks a = true then none else some (("asker" : Str), (-1 : Int))
def faultP (x a : PyData) : Option (Str × Int) := match x with
  | .tuple ks => faultK ks a
  | _ => some (("shape" : Str), (-1 : Int))
def faultOf (d : PyData) : Option (Str × Int) := match d with
  | .tuple [x, a] => faultP x a
  | _ => some (("shape" : Str), (-1 : Int))
theorem web_shape (d : PyData) : (∃ ks a, d = .tuple [.tuple ks, a]) ∨ (∃ x a, d = .tuple [x, a] ∧ tupB x = false) ∨ pairB d = false := by
  cases d with
  | tuple ds =>
    match ds with
    | [x, a] =>
      cases x with
      | tuple ks => exact .inl ⟨ks, a, rfl⟩
      | _ => exact .inr (.inl ⟨_, a, rfl, rfl⟩)
    | [] => exact .inr (.inr rfl)
    | [_] => exact .inr (.inr rfl)
    | _ :: _ :: _ :: _ => exact .inr (.inr rfl)
  | _ => exact .inr (.inr rfl)
theorem fault_shape {d : PyData} (h : (∃ x a, d = .tuple [x, a] ∧ tupB x = false) ∨ pairB d = false) : faultOf d = some (("shape" : Str), (-1 : Int)) := by
  rcases h with ⟨x, a, rfl, hx⟩ | h
  · cases x <;> first | rfl | cases hx
  · cases d with
    | tuple ds =>
      match ds, h with
      | [], _ => rfl
      | [_], _ => rfl
      | [_, _], h => cases h
      | _ :: _ :: _ :: _, _ => rfl
    | _ => rfl
theorem fault_kind {ks : List PyData} {a : PyData} {i : Nat} (h : First (kindAt ks) ks.length i) : faultOf (.tuple [.tuple ks, a]) = some (("kind" : Str), ((i : Nat) : Int)) := by
  show faultK ks a = _
  unfold faultK
  rw [firstI_of h]
theorem fault_table {ks : List PyData} {a : PyData} {i : Nat} (g : ∀ k, k < ks.length → kindAt ks k = true) (h : First (tabAt ks) ks.length i) : faultOf (.tuple [.tuple ks, a]) = some (("table" : Str), ((i : Nat) : Int)) := by
  show faultK ks a = _
  unfold faultK
  rw [firstI_none g, firstI_of h]
theorem fault_ask {ks : List PyData} {a : PyData} (g : ∀ k, k < ks.length → kindAt ks k = true) (h : ∀ k, k < ks.length → tabAt ks k = true) : faultOf (.tuple [.tuple ks, a]) = if askB ks a = true then none else some (("asker" : Str), (-1 : Int)) := by
  show faultK ks a = _
  unfold faultK
  rw [firstI_none g, firstI_none h]
theorem Nice.shaped {d : PyData} (h : Nice d) : SeqAt.shaped d = true := good_shaped h.g (Nat.le_trans h.dp (by decide))
theorem nice2 {a b : PyData} (h : Nice (.tuple [a, b])) : Nice a ∧ Nice b := ⟨h.get (i := 0) rfl, h.get (i := 1) rfl⟩
theorem two_of {α : Type} {l : List α} (h : l.length = 2) : ∃ a b, l = [a, b] := by
  match l, h with
  | [a, b], _ => exact ⟨a, b, rfl⟩
def spAsk (K : PySem.W.Frag) : Sp := fun vs H Q _ => ∃ (v x : V) (ds : List PyData) (d : PyData), vs = [v, x] ∧ Dp K H v (.tuple ds) ∧ Nice (.tuple ds) ∧ (∀ k, k < ds.length → kindAt ds k = true) ∧ Dp K H x d ∧ Nice d ∧ ∀ H', Same H H' → Q (.bl (askB ds d)) H'
section
variable {P : Program} {w : World} {K : PySem.W.Frag} {mg : Str → Option Value} {base : Heap}
theorem ok_ask {f : Addr} {fd : FuncData} (F : Fun K "is_asker" "is_asker" (topS 11) f fd) (ma : mg "any" = none) : FnOk P w K mg base CX0 1 f fd ["kinds", "thing"] (spAsk K) := by
  refine F.ok scAsk (fun vs H Q E h => ?_) (fun cdv A outer s H vs Q E hr h => ?_)
  · obtain ⟨v, x, ds, d, rfl, _⟩ := h
    rfl
  · obtain ⟨v, x, ds, d, rfl, hd, ni, good, hx, nx, q⟩ := h
    have eqd : ∀ {X : Cx}, X.K = K → X.A.units + 64 < cLine → OpR X (compareOp .Eq) (rEqD K) := fun e hu => e ▸ op_eqD hu
    refine ⟨_, pss_one (ps_ret (pe_callB (cr_any (by rfl)) (by rfl) ma (by decide +kernel) (pa_cons (pe_lc (own := [("kind", 2)]) (g := gName 2) (by rfl) scAsk.nd (pi_tup (pv 0)) (blkOk_by (own := [("kind", 2)]) (N := nAsk) (sc := defScope (topS 11)) (by decide +kernel))
      (fun _ _ _ _ _ => pg_name (i := 2) scAsk.nd rfl (Or.inl rfl)) (fun _ _ _ _ _ => pts_nil) (fun _ _ _ _ _ => pe_and (pe_cmpR (eqd rfl hr.units) (pe_ix (r := rIxT K) ix_tup (pv 2) pe_int (fun _ _ => rfl)) (pv 1) (by rfl)) (pe_one (pe_not (pe_ix (r := rIxT K) ix_tup (pv 2) pe_int (fun _ _ => rfl)))))) pa_nil))), ?_⟩
    obtain ⟨p, xs, rfl, hT, hds, lx⟩ := tupD hd
    have few := ni.len
    dsimp only [tRet, tCB, tCons]
    refine lc_mapT (K := K) (a := p) (xs := xs) ((ds.map fun k => PyData.eqv (part k 0) d && !hasOf k).map V.bl) (by simp; omega) (by omega) hT ?_ ?_ ?_ ?_
    · exact fun R k => ⟨_, rfl, k⟩
    · exact fun v => rfl
    · intro j u y G R hu hy sm k
      obtain ⟨t, ht, dpt⟩ := dsAt hds j u hu
      have hj : j < ds.length := (List.getElem?_eq_some_iff.mp ht).1
      obtain ⟨bb, hb, rfl⟩ := map_get hy
      obtain ⟨t', ht', rfl⟩ := map_get hb
      obtain rfl : t = t' := Option.some.inj (ht.symm.trans ht')
      have nit := ni.get ht
      obtain ⟨n, fe, b, ts, rfl, _⟩ := kind_parts (kindAt_kind (good j hj) ht)
      obtain ⟨nn, _, _, _⟩ := nice4 nit
      obtain ⟨pk, zk, rfl, hTk, hdk, lk4⟩ := tupD dpt
      obtain ⟨va, vb, vc, vd, rfl⟩ := four_of lk4
      cases hdk with
      | cons ha hdk =>
        cases hdk with
        | cons _ hdk =>
          cases hdk with
          | cons hc _ =>
            cases hc
            have hTG := tupS sm hTk
            refine ⟨.ref pk, rfl, pk, _, 0, va, rfl, rfl, hTG, atI_nat (j := 0) rfl, x, rfl, .str n, d, dKeep sm ha, dKeep sm hx, nn.shaped, nx.shaped, _, rfl, ?_⟩
            have e : part (.tuple [.str n, .int fe, .bool b, .tuple ts]) 0 = .str n := rfl
            have e2 : hasOf (.tuple [.str n, .int fe, .bool b, .tuple ts]) = b := rfl
            rw [e, e2] at k
            cases z : PyData.eqv (.str n) d
            · rw [z] at k
              exact iteF (k G (Same.refl G))
            · rw [z, Bool.true_and] at k
              exact iteT ⟨.ref pk, rfl, pk, _, 2, .bl b, rfl, rfl, hTG, atI_nat (j := 2) rfl, b, rfl, k G (Same.refl G)⟩
    · intro D G nD sm eD
      refine ⟨D, _, rfl, .inl (.inl eD), ?_⟩
      have e : askB ds d = (ds.map fun k => PyData.eqv (part k 0) d && !hasOf k).any id := by
        unfold askB
        rw [List.any_map]
        rfl
      rw [← e]
      exact q G sm
theorem ok_web {f fP fK fT fA : Addr} {fd dP dK dT dA : FuncData} (F : Fun K "is_web" "is_web" (topS 12) f fd) (Pr : Def K mg "is_pair" 1 ["thing"] fP dP) (OP : FnOk P w K mg base CX0 1 fP dP ["thing"] (spG K pairB))
    (Wk : Def K mg "wrong_kind" 9 ["kinds"] fK dK) (OK : FnOk P w K mg base CX0 4 fK dK ["kinds"] (spWk K)) (Wt : Def K mg "wrong_table" 10 ["kinds"] fT dT) (OT : FnOk P w K mg base CX0 1 fT dT ["kinds"] (spWt K))
    (A' : Def K mg "is_asker" 11 ["kinds", "thing"] fA dA) (OA : FnOk P w K mg base CX0 1 fA dA ["kinds", "thing"] (spAsk K)) (mi : mg "isinstance" = none) (mt : mg "tuple" = none) :
    FnOk P w K mg base CX0 5 f fd ["thing"] (spG K fun d => (faultOf d).isNone) := by
  refine F.ok scWeb (fun vs H Q E h => ?_) (fun cdv A outer s H vs Q E hr h => ?_)
  · obtain ⟨v, d, rfl, _⟩ := h
    rfl
  · obtain ⟨v, d, rfl, hd, ni, q0⟩ := h
    have q : ∀ H', Same H H' → Q (.bl (faultOf d).isNone) H' := q0
    clear q0
    have hr1 : Room 1 _ := hr.mono (by decide)
    refine ⟨_, pss_cons (ps_if (PW.pt (pw_or (pt_not (pt_val (pe_call OP hr1 (by rfl) Pr.m Pr.F.kp Pr.b .nil pass0 (pa_cons (pv 0) pa_nil)))) (pw_or1 (pt_not (pt_val (pe_callB call_isi (by rfl) mi boot_isinstance (pa_cons (pe_ix ix_tup (pv 0) pe_int (fun _ _ => rfl)) (pa_cons (pe_bltn (v := .ty "tuple") (by rfl) mt (by decide +kernel) rfl) pa_nil)))))))) (pss_one (ps_ret pe_bl)) pss_nil)
      (pss_cons (ps_asg (pv 0) (pg_tup (by rfl) (pgs_cons (pg_name (i := 1) scWeb.nd rfl (.inl rfl)) (pgs_cons (pg_name (i := 2) scWeb.nd rfl (.inl rfl)) pgs_nil))))
      (pss_cons (ps_if (PW.pt (pw_or (pt_cmpR op_notN (pe_call OK hr (by rfl) Wk.m Wk.F.kp Wk.b .nil pass0 (pa_cons (pv 1) pa_nil)) pe_non (nomark _)) (pw_or1 (pt_cmpR op_notN (pe_call OT hr1 (by rfl) Wt.m Wt.F.kp Wt.b .nil pass0 (pa_cons (pv 1) pa_nil)) pe_non (nomark _))))) (pss_one (ps_ret pe_bl)) pss_nil)
      (pss_one (ps_ret (pe_call OA hr1 (by rfl) A'.m A'.F.kp A'.b .nil pass0 (pa_cons (pv 1) (pa_cons (pv 2) pa_nil))))))), ?_⟩
    refine ⟨v, rfl, v, d, rfl, hd, ni, fun G1 s1 => ⟨_, rfl, ?_⟩⟩
    rcases web_shape d with ⟨ks, a, rfl⟩ | h
    · refine iteF ?_
      obtain ⟨p, xs, rfl, hT, hds, lx⟩ := tupD hd
      obtain ⟨vk, va, rfl⟩ := two_of lx
      obtain ⟨nk, na⟩ := nice2 ni
      cases hds with
      | cons dk hds =>
        cases hds with
        | cons da _ =>
          have hT1 := tupS s1 hT
          have dk1 := dKeep s1 dk
          refine ⟨.ref p, rfl, p, _, 0, vk, rfl, rfl, hT1, atI_nat (j := 0) rfl, vk, .ty "tuple", _, _, _, rfl, .ty "tuple", ty_of dk1, kit_tup, _, rfl, iteF ?_⟩
          refine ⟨_, rfl, p, _, rfl, hT1, rfl, _, _, rfl, _, _, rfl, rfl, ?_⟩
          refine ⟨vk, rfl, vk, ks, rfl, dk1, nk, fun i fi H' s' => ⟨rfl, true, rfl, iteT ?_⟩, fun good H' s' => ⟨rfl, false, rfl, iteF ?_⟩⟩
          · have e := fault_kind (a := a) fi
            rw [e] at q
            exact q H' (s1.trans s')
          · have s2 := s1.trans s'
            refine ⟨vk, rfl, vk, ks, rfl, dKeep s2 dk, nk, good, fun i fi H2 s3 => ⟨rfl, true, rfl, iteT ?_⟩, fun tabs H2 s3 => ⟨rfl, false, rfl, iteF ?_⟩⟩
            · have e := fault_table (a := a) good fi
              rw [e] at q
              exact q H2 (s2.trans s3)
            · have s4 := s2.trans s3
              refine ⟨vk, rfl, va, rfl, vk, va, ks, a, rfl, dKeep s4 dk, nk, good, dKeep s4 da, na, fun H3 s5 => ?_⟩
              have e := fault_ask (a := a) good tabs
              rw [e] at q
              cases z : askB ks a
              · rw [z] at q
                exact q H3 (s4.trans s5)
              · rw [z] at q
                exact q H3 (s4.trans s5)
    · rw [fault_shape h] at q
      rcases h with ⟨x, a, rfl, hx⟩ | h
      · refine iteF ?_
        obtain ⟨p, xs, rfl, hT, hds, lx⟩ := tupD hd
        obtain ⟨vk, va, rfl⟩ := two_of lx
        cases hds with
        | cons dk hds =>
          have hT1 := tupS s1 hT
          refine ⟨.ref p, rfl, p, _, 0, vk, rfl, rfl, hT1, atI_nat (j := 0) rfl, vk, .ty "tuple", _, _, _, rfl, .ty "tuple", ty_of (dKeep s1 dk), kit_tup, _, rfl, ?_⟩
          rw [hx]
          exact iteT (q G1 s1)
      · rw [h]
        exact iteT (q G1 s1)
end
end Kn


namespace Kn
open PySem PySem.Spec PyProof.Rows L2
abbrev nFt : List Str := ["_law_item", "_law_i", "_law_entry", "_law_labels_here", "_law_free", "_law_label"]
theorem scFt : FnScope nFt ["_law_item"] (defScope (topS 29)) := ⟨rfl, rfl, rfl, by decide +kernel, rfl, by decide +kernel, by decide +kernel⟩
def FaultAt (H : Hp) (r : V) : Option (Str × Int) → Prop
  | none => r = .non
  | some (w, t) => ∃ p, r = .ref p ∧ H p = some (.tup [.str w, .int t])
def spFt (K : PySem.W.Frag) : Sp := fun vs H Q _ => ∃ (v : V) (d : PyData), vs = [v] ∧ Dp K H v d ∧ Nice d ∧ ∀ (r : V) (H' : Hp), Same H H' → FaultAt H' r (faultOf d) → Q r H'
def freeOf (ks : List PyData) : List Str := (ks.filter fun k => !hasOf k).map nameOf
theorem free_pick : ∀ ks : List PyData, ((ks.map fun k => (!hasOf k, V.str (nameOf k))).filter (·.1)).map (·.2) = (freeOf ks).map V.str
  | [] => rfl
  | k :: r => by
    have ih := free_pick r
    unfold freeOf at ih ⊢
    rw [List.map_cons, List.filter_cons, List.filter_cons]
    cases hasOf k
    · simpa using ih
    · simpa using ih
theorem ask_str {ks : List PyData} {s : Str} (h : ∀ k ∈ ks, ∃ x, part k 0 = .str x) : askB ks (.str s) = decide (s ∈ freeOf ks) := by
  unfold askB freeOf
  induction ks with
  | nil => rfl
  | cons k r ih =>
    have ih := ih fun z hz => h z (List.mem_cons_of_mem _ hz)
    obtain ⟨x, hx⟩ := h k (List.mem_cons_self ..)
    rw [List.any_cons, ih, List.filter_cons, hx]
    have e : PyData.eqv (.str x) (.str s) = (x == s) := rfl
    have en : nameOf k = x := by unfold nameOf; rw [hx]; rfl
    rw [e]
    cases hasOf k
    · show ((x == s) && true || _) = _
      rw [Bool.and_true]
      show _ = decide (s ∈ nameOf k :: (r.filter fun k => !hasOf k).map nameOf)
      rw [en]
      by_cases q : x = s
      · subst q
        rw [beq_self_eq_true, Bool.true_or, decide_eq_true (List.mem_cons_self ..)]
      · rw [beq_eq_false_iff_ne.mpr q, Bool.false_or]
        by_cases m : s ∈ (r.filter fun k => !hasOf k).map nameOf
        · rw [decide_eq_true m, decide_eq_true (List.mem_cons_of_mem _ m)]
        · rw [decide_eq_false m, decide_eq_false fun z => by
            rcases List.mem_cons.mp z with z | z
            · exact q z.symm
            · exact m z]
    · show ((x == s) && false || _) = _
      rw [Bool.and_false, Bool.false_or]
      rfl
theorem ask_other {ks : List PyData} {d : PyData} (h : ∀ k ∈ ks, ∃ x, part k 0 = .str x) (n : strB d = false) : askB ks d = false := by
  unfold askB
  rw [List.any_eq_false]
  intro k hk
  obtain ⟨x, hx⟩ := h k hk
  rw [hx]
  cases d <;> first | (show ¬ (false && _) = true; rw [Bool.false_and]; decide) | (cases n)
section
variable {P : Program} {w : World} {K : PySem.W.Frag} {mg : Str → Option Value} {base : Heap}
theorem ok_ft {f fE : Addr} {fd dE : FuncData} (F : Fun K "_law_fault" "_law_fault" (topS 29) f fd) (En' : Def K mg "_law_is_entry" 28 ["_law_item"] fE dE) (OE : FnOk P w K mg base CX0 3 fE dE ["_law_item"] (spG K kindB))
    (mi : mg "isinstance" = none) (mt : mg "tuple" = none) (ml : mg "len" = none) (me : mg "enumerate" = none) (ms : mg "str" = none) : FnOk P w K mg base CX0 4 f fd ["_law_item"] (spFt K) := by
  refine F.ok scFt (fun vs H Q E h => ?_) (fun cdv A outer s H vs Q E hr h => ?_)
  · obtain ⟨v, d, rfl, _⟩ := h
    rfl
  · obtain ⟨v, d, rfl, hd, ni, q⟩ := h
    refine ⟨_, (pss_cons (ps_if (PW.pt (pw_or (pt_not (pt_val (pe_callB call_isi (by rfl) mi boot_isinstance (pa_cons (pv 0) (pa_cons (pe_bltn (v := .ty "tuple") (by rfl) mt (by decide +kernel) rfl) pa_nil))))) (pw_or (pt_cmpR op_ne (pe_callB call_len_seq (by rfl) ml PySem.boot_len (pa_cons (pv 0) pa_nil)) pe_int (nomark _)) (pw_or1 (pt_not (pt_val (pe_callB call_isi (by rfl) mi boot_isinstance (pa_cons (pe_ix ix_tup (pv 0) pe_int (fun _ _ => rfl)) (pa_cons (pe_bltn (v := .ty "tuple") (by rfl) mt (by decide +kernel) rfl) pa_nil))))))))) (pss_one (ps_ret (pe_tup (pa_cons pe_str (pa_cons (pe_un un_neg pe_int) pa_nil))))) pss_nil) (pss_cons (ps_for PassesOwn.never rfl (En.pi_enT (by rfl) me (pa_cons (pe_ix ix_tup (pv 0) pe_int (fun _ _ => rfl)) pa_nil)) (pg_tup (by rfl) (pgs_cons (pg_name (i := 1) scFt.nd rfl (.inl rfl)) (pgs_cons (pg_name (i := 2) scFt.nd rfl (.inl rfl)) pgs_nil))) (pss_one (ps_if (PW.pt (pw_or (pt_not (pt_val (pe_call OE hr (by rfl) En'.m En'.F.kp En'.b .nil pass0 (pa_cons (pv 2) pa_nil)))) (pw_or1 (PW.pt (pw_and (pt_cmpR op_gt (pv 1) pe_int (nomark _)) (pw_and1 (pt_cmpR op_le_str (pe_ix ix_tup (pv 2) pe_int (fun _ _ => rfl)) (pe_ix ix_tup (pe_ix ix_tup (pe_ix ix_tup (pv 0) pe_int (fun _ _ => rfl)) (pe_op op_sub (pv 1) pe_int) (fun _ _ => rfl)) pe_int (fun _ _ => rfl)) (by rfl)))))))) (pss_one (ps_ret (pe_tup (pa_cons pe_str (pa_cons (pv 1) pa_nil))))) pss_nil))) (pss_cons (ps_set (i := 3) scFt.nd rfl (.inr rfl) (pe_lc (own := [("_law_entry", 2)]) (g := gName 2) (by rfl) scFt.nd (pi_tup (pe_ix ix_tup (pv 0) pe_int (fun _ _ => rfl))) (blkOk_by (own := [("_law_entry", 2)]) (N := nFt) (sc := defScope (topS 29)) (by decide +kernel)) (fun _ _ _ _ _ => pg_name (i := 2) scFt.nd rfl (Or.inl rfl)) (fun _ _ _ _ _ => pts_nil) (fun _ _ _ _ _ => (pe_ix (r := rIxT K) ix_tup (pv 2) pe_int (fun _ _ => rfl))))) (pss_cons (ps_for PassesOwn.never rfl (En.pi_enT (by rfl) me (pa_cons (pe_ix ix_tup (pv 0) pe_int (fun _ _ => rfl)) pa_nil)) (pg_tup (by rfl) (pgs_cons (pg_name (i := 1) scFt.nd rfl (.inl rfl)) (pgs_cons (pg_name (i := 2) scFt.nd rfl (.inl rfl)) pgs_nil))) (pss_one (ps_if (pt_cmpR (op_neD hr.units) (pe_lc (own := [("_law_label", 5)]) (g := gName 5) (by rfl) scFt.nd (pi_tup (pe_ix ix_tup (pv 2) pe_int (fun _ _ => rfl))) (blkOk_by (own := [("_law_label", 5)]) (N := nFt) (sc := defScope (topS 29)) (by decide +kernel)) (fun _ _ _ _ _ => pg_name (i := 5) scFt.nd rfl (Or.inl rfl)) (fun _ _ _ _ _ => pts_one (pt_cmpR (r := rIn K true) op_notIn_seq (pv 5) (pv 3) (by rfl))) (fun _ _ _ _ _ => pv 5)) (pe_lst pa_nil) (nomark _)) (pss_one (ps_ret (pe_tup (pa_cons pe_str (pa_cons (pv 1) pa_nil))))) pss_nil))) (pss_cons (ps_setLc (i := 4) (own := [("_law_entry", 2)]) (g := gName 2) (by rfl) scFt.nd rfl rfl (sw_true rfl rfl rfl (by decide +kernel)) (pi_tup (pe_ix ix_tup (pv 0) pe_int (fun _ _ => rfl))) (blkOk_by (own := [("_law_entry", 2)]) (N := nFt) (sc := defScope (topS 29)) (by decide +kernel)) (fun _ _ _ _ _ => pg_name (i := 2) scFt.nd rfl (Or.inl rfl)) (fun _ _ _ _ _ => pts_one (pt_not (pt_val (pe_ix (r := rIxT K) ix_tup (pv 2) pe_int (fun _ _ => rfl))))) (fun _ _ _ _ _ => (pe_ix (r := rIxT K) ix_tup (pv 2) pe_int (fun _ _ => rfl)))) (pss_one (ps_ret (pe_ifExp (PW.pt (pw_and (pt_val (pe_callB call_isi (by rfl) mi boot_isinstance (pa_cons (pe_ix ix_tup (pv 0) pe_int (fun _ _ => rfl)) (pa_cons (pe_bltn (v := .ty "str") (by rfl) ms (by decide +kernel) rfl) pa_nil)))) (pw_and1 (pt_cmpR op_in_seq (pe_ix ix_tup (pv 0) pe_int (fun _ _ => rfl)) (pv 4) (by rfl))))) pe_non (pe_tup (pa_cons pe_str (pa_cons (pe_un un_neg pe_int) pa_nil))))))))))), ?_⟩
    rcases web_shape d with ⟨ks, a, rfl⟩ | h
    · obtain ⟨p, xs, rfl, hT, hds, lx⟩ := tupD hd
      obtain ⟨vk, va, rfl⟩ := two_of lx
      obtain ⟨nk, na⟩ := nice2 ni
      have few := nk.len
      cases hds with
      | cons dk hds =>
        cases hds with
        | cons da _ =>
          obtain ⟨pk, xk, rfl, hTk, hdk, lk⟩ := tupD dk
          refine ⟨.ref p, rfl, .ref p, .ty "tuple", _, _, _, rfl, .ty "tuple", ty_of hd, kit_tup, _, rfl, iteF ?_⟩
          refine ⟨_, rfl, p, _, rfl, .inr hT, rfl, _, rfl, ?_⟩
          rw [decide_eq_true (show V.int (([V.ref pk, va] : List V).length : Nat) = V.int 2 from rfl)]
          refine iteF ?_
          refine ⟨.ref p, rfl, p, _, 0, .ref pk, rfl, rfl, hT, atI_nat (j := 0) rfl, .ref pk, .ty "tuple", _, _, _, rfl, .ty "tuple", ty_of dk, kit_tup, _, rfl, iteF ?_⟩
          refine ⟨.ref p, rfl, p, _, 0, .ref pk, rfl, rfl, hT, atI_nat (j := 0) rfl, pk, xk, rfl, hTk, for_it En.walk_enT (fun i σ G => ∃ y1 y2, σ = [some (.ref p), y1, y2, none, none, none] ∧ Same H G ∧ ∀ k, k < i → kindAt ks k = true) ⟨none, none, rfl, Same.refl H, fun k hk => absurd hk (Nat.not_lt_zero k)⟩ (fun i σ G _ ⟨_, _, _, s, _⟩ => tupS s hTk) ?_ ?_⟩
          · rintro i x σ G G' hi ⟨y1, y2, rfl, sG, old⟩ ⟨T, k, u, rfl, nT, rfl, hk, hv⟩
            obtain rfl : V.int (i : Nat) = k := Option.some.inj hk
            obtain ⟨d, hdi, dp⟩ := dsAt hdk i u hv
            have sN := putS (o := .tup [V.int (i : Nat), u]) sG (sG.free nT)
            refine ⟨T, _, rfl, .inl (.inl upd_same), rfl, _, _, rfl, _, _, rfl, rfl, ?_⟩
            refine ⟨u, rfl, u, d, rfl, dKeep sN dp, nk.get hdi, fun G2 s2 => ⟨_, rfl, ?_⟩⟩
            have sN2 := sN.trans s2
            have hi' : i < ks.length := by omega
            have at_ : kindAt ks i = (kindB d && (i == 0 || ltD (part (ks.getD (i - 1) .none) 0) (part d 0))) := by
              show (kindB (ks.getD i .none) && (i == 0 || ltD (part (ks.getD (i - 1) .none) 0) (part (ks.getD i .none) 0))) = _
              rw [gd_at hdi]
            have bad : kindAt ks i = false → ∀ t, G2 t = none → Q (.ref t) (upd G2 t (.tup [.str "kind", .int (i : Nat)])) := fun z t nt => by
              have e := fault_kind (a := a) ⟨hi', z, old⟩
              rw [e] at q
              exact q _ _ (sN2.trans (same_new nt)) ⟨t, rfl, upd_same⟩
            cases z : kindB d
            · exact iteT ⟨_, rfl, (show 2 ≤ sizeLine by decide), bad (by rw [at_, z, Bool.false_and])⟩
            · refine iteF ?_
              refine ⟨_, rfl, (i : Nat), 0, rfl, rfl, _, rfl, ite2 (fun c => ?_) (fun c => ?_)⟩
              · have c0 : 0 < i := by
                  have := of_decide_eq_true c
                  omega
                obtain ⟨j, rfl⟩ : ∃ j, i = j + 1 := ⟨i - 1, by omega⟩
                have hj : j < ks.length := by omega
                have hxj : xk[j]? = some xk[j] := List.getElem?_eq_getElem (by omega)
                obtain ⟨dj, hdj, dpj⟩ := dsAt hdk j _ hxj
                obtain ⟨xj, fj, bj, tj, rfl, _⟩ := kind_parts (kindAt_kind (old j (by omega)) hdj)
                obtain ⟨xi, fi, bi, ti, rfl, _⟩ := kind_parts z
                generalize xk[j] = vj at hxj dpj
                obtain ⟨pj, zj, rfl, hTj, hdsj, _⟩ := tupD dpj
                obtain ⟨pi, zi, rfl, hTi, hdsi, _⟩ := tupD dp
                cases hdsj with
                | cons aj _ =>
                  cases hdsi with
                  | cons ai _ =>
                    cases aj
                    cases ai
                    refine ⟨.ref pi, rfl, pi, _, 0, .str xi, rfl, rfl, tupS sN2 hTi, atI_nat (j := 0) rfl, .ref p, rfl, p, _, 0, .ref pk, rfl, rfl, tupS sN2 hT, atI_nat (j := 0) rfl, _, rfl, ((j + 1 : Nat) : Int), 1, rfl, rfl, pk, xk, _, .ref pj, rfl, rfl, tupS sN2 hTk, at_i (j := j) (by omega) hxj, pj, _, 0, .str xj, rfl, rfl, tupS sN2 hTj, atI_nat (j := 0) rfl, xi, xj, rfl, rfl, _, rfl, ?_⟩
                    have key : kindAt ks (j + 1) = decide (xj.cps.toList < xi.cps.toList) := by
                      rw [at_, z]
                      show (true && (false || ltD (part (ks.getD j .none) 0) (.str xi))) = _
                      rw [gd_at hdj]
                      rfl
                    cases lt : decide (xj.cps.toList < xi.cps.toList)
                    · exact iteT ⟨_, rfl, (show 2 ≤ sizeLine by decide), bad (by rw [key, lt])⟩
                    · refine iteF ⟨_, _, rfl, sN2, fun k hk => ?_⟩
                      rcases Nat.lt_succ_iff_lt_or_eq.mp hk with hk | rfl
                      · exact old k hk
                      · rw [key, lt]
              · have i0 : i = 0 := by
                  have : ¬ (0 : Int) < (i : Nat) := fun z => c (decide_eq_true z)
                  omega
                subst i0
                refine iteF ⟨_, _, rfl, sN2, fun k hk => ?_⟩
                obtain rfl : k = 0 := by omega
                rw [at_, z]
                rfl
          · rintro σ G ⟨y1, y2, rfl, sG, old⟩
            have good : ∀ k, k < ks.length → kindAt ks k = true := fun k hk => old k (by omega)
            have txts : ∀ k ∈ ks, ∃ x, part k 0 = .str x := fun k hk => by
              obtain ⟨j, hj, e⟩ := List.getElem_of_mem hk
              obtain ⟨x, _, _, _, e2, _⟩ := kind_parts (kindAt_kind (good j hj) (List.getElem?_eq_getElem hj))
              rw [← e, e2]
              exact ⟨x, rfl⟩
            have four : ∀ (j : Nat) (u : V) (t : PyData), xk[j]? = some u → ks[j]? = some t → ∃ pq v2 pt zt n fe b ts, u = .ref pq ∧ t = .tuple [.str n, .int fe, .bool b, .tuple ts] ∧ SqT K H pq [.str n, v2, .bl b, .ref pt] ∧ SqT K H pt zt ∧ DpAll K H zt ts ∧ zt.length = ts.length ∧ Nice (.tuple ts) ∧ rowB (.tuple ts) = true := by
              intro j u t hu ht
              obtain ⟨t', ht', dpt⟩ := dsAt hdk j u hu
              obtain rfl : t' = t := Option.some.inj (ht'.symm.trans ht)
              have hj : j < ks.length := (List.getElem?_eq_some_iff.mp ht).1
              have nit := nk.get ht
              obtain ⟨n, fe, b, ts, rfl, _, _, hr'⟩ := kind_parts (kindAt_kind (good j hj) ht)
              obtain ⟨_, _, _, nts⟩ := nice4 nit
              obtain ⟨pq, zk, rfl, hTq, hdq, lk4⟩ := tupD dpt
              obtain ⟨v1, v2, v3, v4, rfl⟩ := four_of lk4
              cases hdq with
              | cons d1 hdq =>
                cases hdq with
                | cons d2 hdq =>
                  cases hdq with
                  | cons d3 hdq =>
                    cases hdq with
                    | cons d4 _ =>
                      cases d1
                      cases d3
                      obtain ⟨pt, zt, rfl, hTt, hdt, lt⟩ := tupD d4
                      exact ⟨pq, v2, pt, zt, n, fe, b, ts, rfl, rfl, hTq, hTt, hdt, lt, nts, hr'⟩
            dsimp only
            refine seq_asg ?_
            refine lc_mapT (K := K) (a := pk) (xs := xk) ((namesOf ks).map V.str) (by unfold namesOf; simp; omega) (by omega) (tupS sG hTk) ?_ ?_ ?_ ?_
            · exact fun R k => ⟨.ref p, rfl, p, _, 0, .ref pk, rfl, rfl, tupS sG hT, atI_nat (j := 0) rfl, k⟩
            · exact fun v => rfl
            · intro j u y X R hu hy sm k
              obtain ⟨sn, hsn, rfl⟩ := map_get hy
              obtain ⟨t, ht, rfl⟩ := map_get hsn
              obtain ⟨pq, v2, pt, zt, n, fe, b, ts, rfl, rfl, hTq, _⟩ := four j u t hu ht
              exact ⟨.ref pq, rfl, pq, _, 0, .str n, rfl, rfl, tupS (sG.trans sm) hTq, atI_nat (j := 0) rfl, k X (Same.refl X)⟩
            · intro D G2 nD sm eD
              have s2 := sG.trans sm
              refine ⟨.ref p, rfl, p, _, 0, .ref pk, rfl, rfl, tupS s2 hT, atI_nat (j := 0) rfl, pk, xk, rfl, tupS s2 hTk, for_it En.walk_enT (fun i σ X => ∃ y1 y2, σ = [some (.ref p), y1, y2, some (.ref D), none, none] ∧ Same G2 X ∧ ∀ k, k < i → tabAt ks k = true) ⟨_, _, rfl, Same.refl G2, fun k hk => absurd hk (Nat.not_lt_zero k)⟩ (fun i σ X _ ⟨_, _, _, s, _⟩ => tupS (s2.trans s) hTk) ?_ ?_⟩
              · rintro i x σ X X' hi ⟨y1, y2, rfl, sX, oldT⟩ ⟨T, k, u, rfl, nT, rfl, hk, hv⟩
                obtain rfl : V.int (i : Nat) = k := Option.some.inj hk
                have hi' : i < ks.length := by omega
                have hdi : ks[i]? = some ks[i] := List.getElem?_eq_getElem hi'
                generalize ks[i] = d at hdi
                obtain ⟨pq, v2, pt, zt, n, fe, b, ts, rfl, rfl, hTq, hTt, hdt, lt, nts, hr'⟩ := four i u d hv hdi
                have sN := putS (o := .tup [V.int (i : Nat), .ref pq]) sX (sX.free nT)
                have fewt := nts.len
                refine ⟨T, _, rfl, .inl (.inl upd_same), rfl, _, _, rfl, _, _, rfl, rfl, ?_⟩
                generalize upd X T (.tup [V.int (i : Nat), .ref pq]) = X1 at sN ⊢
                have s3 := s2.trans sN
                dsimp only [tIfS, tTest, tOp]
                refine lc_filtT (K := K) (a := pt) (xs := zt) (fun t => !decide (strOf t ∈ namesOf ks)) ts (tupS s3 hTt) (dsKeep s3 hdt) (by omega) ?_ ?_ ?_ ?_ ?_
                · exact fun R k => ⟨.ref pq, rfl, pq, _, 3, .ref pt, rfl, rfl, tupS s3 hTq, atI_nat (j := 3) rfl, k⟩
                · exact fun v => rfl
                · intro j y t X2 R hy ht dpt sm2 k
                  obtain ⟨z, rfl⟩ := row_names hr' t (List.mem_of_getElem? ht)
                  cases dpt
                  refine ⟨_, rfl, .ref D, rfl, D, _, rfl, .inl (.inl (.inl (sm2 _ _ (sN _ _ eD)))), rfl, Kn.flat_strs _, _, rfl, ?_⟩
                  show R (!inV (.str z) ((namesOf ks).map V.str)) _
                  rw [Kn.inV_strs]
                  exact k X2 (Same.refl X2)
                · exact fun y X2 R k => ⟨_, rfl, k⟩
                · intro D5 ws G5 n5 sm5 e5 hw
                  refine ⟨Nat.zero_le _, fun l6 n6 => ?_⟩
                  have s6 := same_new (o := .lst []) n6
                  have s36 := (s3.trans sm5).trans s6
                  have gts : goodDs ts = true := nts.tm.g
                  have dts := nts.tm.d
                  refine ⟨.list (ts.filter fun t => !decide (strOf t ∈ namesOf ks)), .list [], .lst (.inl (.inl (s6 _ _ e5))) (dsKeep s6 hw), .lst (.inl (.inl upd_same)) .nil, good_shaped (goodFilter _ gts) (by show PyData.depthAll _ + 1 ≤ 64; have := depthFilter (fun t => !decide (strOf t ∈ namesOf ks)) ts; omega), rfl, _, rfl, ?_⟩
                  rw [eqv_nil2, filter_none (fun t => decide (strOf t ∈ namesOf ks)) ts]
                  have key : tabAt ks i = ts.all fun t => decide (strOf t ∈ namesOf ks) := by
                    show (tabOf (ks.getD i .none)).all _ = _
                    rw [gd_at hdi]
                    show (ts.map strOf).all _ = _
                    rw [List.all_map]
                    rfl
                  rw [← key]
                  cases zz : tabAt ks i
                  · refine iteT ⟨_, rfl, (show 2 ≤ sizeLine by decide), fun t nt => ?_⟩
                    have e := fault_table (a := a) good ⟨hi', zz, oldT⟩
                    rw [e] at q
                    exact q _ _ (s36.trans (same_new nt)) ⟨t, rfl, upd_same⟩
                  · refine iteF ⟨_, _, rfl, (sN.trans sm5).trans s6, fun k hk => ?_⟩
                    rcases Nat.lt_succ_iff_lt_or_eq.mp hk with hk | rfl
                    · exact oldT k hk
                    · exact zz
              · rintro σ X ⟨y1, y2, rfl, sX, oldT⟩
                have tabs : ∀ k, k < ks.length → tabAt ks k = true := fun k hk => oldT k (by omega)
                have s3 := s2.trans sX
                have e := fault_ask (a := a) good tabs
                dsimp only
                refine seq_asg ?_
                refine Kn.lc_pickT (K := K) (a := pk) (xs := xk) (ks.map fun k => (!hasOf k, V.str (nameOf k))) (by simp; omega) (by omega) (tupS s3 hTk) ?_ ?_ ?_ ?_ ?_
                · exact fun R k => ⟨.ref p, rfl, p, _, 0, .ref pk, rfl, rfl, tupS s3 hT, atI_nat (j := 0) rfl, k⟩
                · exact fun v => rfl
                · intro j u b y X2 R hu hy sm2 k
                  obtain ⟨t, ht, ey⟩ := map_get hy
                  obtain ⟨pq, v2, pt, zt, n, fe, bb, ts, rfl, rfl, hTq, _⟩ := four j u t hu ht
                  cases ey
                  exact ⟨.ref pq, rfl, pq, _, 2, .bl bb, rfl, rfl, tupS (s3.trans sm2) hTq, atI_nat (j := 2) rfl, bb, rfl, k⟩
                · intro j u b y X2 R hu hy sm2 k
                  obtain ⟨t, ht, ey⟩ := map_get hy
                  obtain ⟨pq, v2, pt, zt, n, fe, bb, ts, rfl, rfl, hTq, _⟩ := four j u t hu ht
                  cases ey
                  exact ⟨.ref pq, rfl, pq, _, 0, .str n, rfl, rfl, tupS (s3.trans sm2) hTq, atI_nat (j := 0) rfl, k⟩
                · intro D7 X7 n7 sm7 e7
                  rw [free_pick] at e7
                  have s7 := s3.trans sm7
                  have da7 := dKeep s7 da
                  have last : askB ks a = false → ∀ t, X7 t = none → Q (.ref t) (upd X7 t (.tup [.str "asker", .int (-1)])) := fun z t nt => by
                    rw [z] at e
                    rw [e] at q
                    exact q _ _ (s7.trans (same_new nt)) ⟨t, rfl, upd_same⟩
                  refine ⟨.ref p, rfl, p, _, 1, va, rfl, rfl, tupS s7 hT, atI_nat (j := 1) rfl, va, .ty "str", _, _, _, rfl, .ty "str", ty_of da7, kit_str, _, rfl, ?_⟩
                  cases da7 with
                  | str z =>
                    refine iteT ⟨.ref p, rfl, p, _, 1, .str z, rfl, rfl, tupS s7 hT, atI_nat (j := 1) rfl, .ref D7, rfl, D7, _, rfl, .inl (.inl (.inl e7)), rfl, Kn.flat_strs _, _, rfl, ?_⟩
                    have ek := ask_str (s := z) txts
                    show if inV (.str z) ((freeOf ks).map V.str) = true then _ else _
                    rw [Kn.inV_strs, ← ek]
                    cases zz : askB ks (.str z)
                    · exact iteF ⟨1, rfl, (show 2 ≤ sizeLine by decide), last zz⟩
                    · rw [zz] at e
                      rw [e] at q
                      exact iteT (q _ _ s7 rfl)
                  | non => exact iteF ⟨1, rfl, (show 2 ≤ sizeLine by decide), last (ask_other txts rfl)⟩
                  | bl b => exact iteF ⟨1, rfl, (show 2 ≤ sizeLine by decide), last (ask_other txts rfl)⟩
                  | int b => exact iteF ⟨1, rfl, (show 2 ≤ sizeLine by decide), last (ask_other txts rfl)⟩
                  | lst x y => exact iteF ⟨1, rfl, (show 2 ≤ sizeLine by decide), last (ask_other txts rfl)⟩
                  | tup x y => exact iteF ⟨1, rfl, (show 2 ≤ sizeLine by decide), last (ask_other txts rfl)⟩
    · have e := fault_shape h
      rw [e] at q
      have last : ∀ t, H t = none → Q (.ref t) (upd H t (.tup [.str "shape", .int (-1)])) := fun t nt => q _ _ (same_new nt) ⟨t, rfl, upd_same⟩
      refine ⟨v, rfl, v, .ty "tuple", _, _, _, rfl, .ty "tuple", ty_of hd, kit_tup, _, rfl, ?_⟩
      cases hd with
      | tup hT hds =>
        rename_i p xs ds
        have lx := dsLen hds
        refine iteF ⟨_, rfl, p, xs, rfl, .inr hT, rfl, _, rfl, ?_⟩
        by_cases two : ds.length = 2
        · rw [decide_eq_true (show V.int (xs.length : Nat) = V.int 2 by rw [lx, two]; rfl)]
          refine iteF ?_
          obtain ⟨vk, va, rfl⟩ := two_of (lx.trans two)
          obtain ⟨x, a, rfl⟩ := two_of two
          cases hds with
          | cons dk hds =>
            have hx : tupB x = false := by
              rcases h with ⟨x', a', e2, hx⟩ | h
              · cases e2
                exact hx
              · cases h
            refine ⟨.ref p, rfl, p, _, 0, vk, rfl, rfl, hT, atI_nat (j := 0) rfl, vk, .ty "tuple", _, _, _, rfl, .ty "tuple", ty_of dk, kit_tup, _, rfl, ?_⟩
            rw [hx]
            exact iteT ⟨1, rfl, (show 2 ≤ sizeLine by decide), last⟩
        · rw [decide_eq_false (show ¬ V.int (xs.length : Nat) = V.int 2 from fun z => two (by have := V.int.inj z; omega))]
          exact iteT ⟨1, rfl, (show 2 ≤ sizeLine by decide), last⟩
      | non => exact iteT ⟨1, rfl, (show 2 ≤ sizeLine by decide), last⟩
      | bl b => exact iteT ⟨1, rfl, (show 2 ≤ sizeLine by decide), last⟩
      | int n => exact iteT ⟨1, rfl, (show 2 ≤ sizeLine by decide), last⟩
      | str n => exact iteT ⟨1, rfl, (show 2 ≤ sizeLine by decide), last⟩
      | lst a b => exact iteT ⟨1, rfl, (show 2 ≤ sizeLine by decide), last⟩
end
end Kn


/-! Kn: any data asked for among the texts of a tuple. -/
namespace Kn
open PySem PySem.Spec PyProof.Rows L2
def hasT (ts : List Str) (d : PyData) : Bool := ts.any fun t => PyData.eqv (.str t) d
def rInT (K : PySem.W.Frag) : R2 := fun x y H Q => ∃ (a : Addr) (d : PyData) (ts : List Str), y = .ref a ∧ SqT K H a (ts.map V.str) ∧ Dp K H x d ∧ SeqAt.shaped d = true ∧ (∀ t ∈ ts, SeqAt.shaped (.str t) = true) ∧ Q (.bl (hasT ts d)) H
def rOutT (K : PySem.W.Frag) : R2 := fun x y H Q => ∃ (a : Addr) (d : PyData) (ts : List Str), y = .ref a ∧ SqT K H a (ts.map V.str) ∧ Dp K H x d ∧ SeqAt.shaped d = true ∧ (∀ t ∈ ts, SeqAt.shaped (.str t) = true) ∧ Q (.bl (!hasT ts d)) H
theorem lay_texts : ∀ ts : List Str, (∀ t ∈ ts, SeqAt.shaped (.str t) = true) → PyData.canLayAll0 (ts.map PyData.str) = true ∧ PyData.depthAll (ts.map PyData.str) = 0
  | [], _ => ⟨rfl, rfl⟩
  | t :: r, h => by
    obtain ⟨a, b⟩ := lay_texts r fun x m => h x (List.mem_cons_of_mem _ m)
    have q := SeqAt.canLay_of_shaped (h t (List.mem_cons_self ..))
    refine ⟨?_, ?_⟩
    · show (PyData.canLay0 (.str t) && PyData.canLayAll0 (r.map PyData.str)) = true
      rw [q, a]
      rfl
    · show max (PyData.depth (.str t)) (PyData.depthAll (r.map PyData.str)) = 0
      rw [b]
      rfl
theorem dp_texts {K : PySem.W.Frag} {H : Hp} : ∀ ts : List Str, DpAll K H (ts.map V.str) (ts.map PyData.str)
  | [] => .nil
  | t :: r => .cons (.str t) (dp_texts r)
section
variable {X : Cx}
theorem any_texts (ts : List Str) (d : PyData) : ((ts.map PyData.str).any fun y => PyData.eqv y d) = hasT ts d := by
  rw [List.any_map]
  rfl
theorem op_inT (hu : X.A.units + 64 < cLine) : OpR X (compareOp .In) (rInT X.K) := by
  intro pins s σ H x y v u Q I rx ry h
  obtain ⟨a, d, ts, rfl, ht, hd, sd, st, q⟩ := h
  obtain ⟨lay, dep⟩ := lay_texts ts st
  obtain ⟨as, r1⟩ := Dp.reads I d x v hd rx
  obtain ⟨bs, r2⟩ := Dp.reads I (.tuple (ts.map PyData.str)) (.ref a) u (.tup ht (dp_texts ts)) ry
  cases r2 with
  | tuple h1 h2 h3 h4 =>
    refine SeqAt.in_tupleAt _ ⟨_, h1, h2, _, h3⟩ (SeqAt.items_eqAt h4 r1 lay (SeqAt.canLay_of_shaped sd) (by rw [dep, Nat.zero_min]; omega)) ?_
    rw [SeqAt.any_by_data h4 lay, any_texts]
    exact ⟨.bl _, H, I, rfl, q⟩
theorem op_notInT (hu : X.A.units + 64 < cLine) : OpR X (compareOp .NotIn) (rOutT X.K) := by
  intro pins s σ H x y v u Q I rx ry h
  obtain ⟨a, d, ts, rfl, ht, hd, sd, st, q⟩ := h
  obtain ⟨lay, dep⟩ := lay_texts ts st
  obtain ⟨as, r1⟩ := Dp.reads I d x v hd rx
  obtain ⟨bs, r2⟩ := Dp.reads I (.tuple (ts.map PyData.str)) (.ref a) u (.tup ht (dp_texts ts)) ry
  cases r2 with
  | tuple h1 h2 h3 h4 =>
    refine SeqAt.notIn_tupleAt _ ⟨_, h1, h2, _, h3⟩ (SeqAt.items_eqAt h4 r1 lay (SeqAt.canLay_of_shaped sd) (by rw [dep, Nat.zero_min]; omega)) ?_
    rw [SeqAt.any_by_data h4 lay, any_texts]
    exact ⟨.bl _, H, I, rfl, q⟩
end
theorem hasT_str (ts : List Str) (m : Str) : hasT ts (.str m) = decide (m ∈ ts) := by
  unfold hasT
  induction ts with
  | nil => simp
  | cons t r ih =>
    rw [List.any_cons, ih]
    show ((t == m) || decide (m ∈ r)) = decide (m ∈ t :: r)
    by_cases e : t = m
    · subst e
      simp
    · have e2 : ¬ m = t := fun z => e z.symm
      simp [e, e2]
theorem hasT_true {ts : List Str} {d : PyData} (h : hasT ts d = true) : ∃ m, d = .str m ∧ m ∈ ts := by
  obtain ⟨t, m, e⟩ := List.any_eq_true.mp h
  cases d with
  | str x =>
    have e : (t == x) = true := e
    exact ⟨x, rfl, by rw [← beq_iff_eq.mp e]; exact m⟩
  | none => cases e
  | bool b => cases e
  | int n => cases e
  | list l => cases e
  | tuple l => cases e
  | dict l => cases e
end Kn


namespace Kn
open PySem PySem.Spec PyProof.Rows L2
def natB : PyData → Bool
  | .int n => decide (0 ≤ n)
  | _ => false
def storeB : PyData → Bool
  | .tuple [n, i] => nameB n && natB i
  | _ => false
def letterB : PyData → Bool
  | .tuple [a, b] => storeB a && storeB b
  | _ => false
theorem scNumber : FnScope nThing ["thing"] (defScope (topS 4)) := ⟨rfl, rfl, rfl, by decide +kernel, rfl, by decide +kernel, by decide +kernel⟩
theorem scStore : FnScope nThing ["thing"] (defScope (topS 13)) := ⟨rfl, rfl, rfl, by decide +kernel, rfl, by decide +kernel, by decide +kernel⟩
theorem scLetter : FnScope nThing ["thing"] (defScope (topS 14)) := ⟨rfl, rfl, rfl, by decide +kernel, rfl, by decide +kernel, by decide +kernel⟩
theorem scStoreL : FnScope nItem ["_law_item"] (defScope (topS 30)) := ⟨rfl, rfl, rfl, by decide +kernel, rfl, by decide +kernel, by decide +kernel⟩
theorem scLetterL : FnScope nItem ["_law_item"] (defScope (topS 31)) := ⟨rfl, rfl, rfl, by decide +kernel, rfl, by decide +kernel, by decide +kernel⟩
theorem pair_two {d : PyData} (h : pairB d = true) : ∃ a b, d = .tuple [a, b] := by
  cases d with
  | tuple ds =>
    obtain ⟨a, b, rfl⟩ := two_of (of_decide_eq_true h)
    exact ⟨a, b, rfl⟩
  | _ => cases h
theorem store_not {d : PyData} (h : pairB d = false) : storeB d = false := by
  cases d with
  | tuple ds =>
    match ds, h with
    | [], _ => rfl
    | [_], _ => rfl
    | [_, _], h => cases h
    | _ :: _ :: _ :: _, _ => rfl
  | _ => rfl
theorem letter_not {d : PyData} (h : pairB d = false) : letterB d = false := by
  cases d with
  | tuple ds =>
    match ds, h with
    | [], _ => rfl
    | [_], _ => rfl
    | [_, _], h => cases h
    | _ :: _ :: _ :: _, _ => rfl
  | _ => rfl
section
variable {P : Program} {w : World} {K : PySem.W.Frag} {mg : Str → Option Value} {base : Heap}
theorem ok_number {f fI : Addr} {fd fdI : FuncData} (F : Fun K "is_number" "is_number" (topS 4) f fd) (I : Def K mg "is_integer" 3 ["thing"] fI fdI) (OI : FnOk P w K mg base CX0 1 fI fdI ["thing"] (spB K intB)) : FnOk P w K mg base CX0 2 f fd ["thing"] (spB K natB) := by
  refine F.ok scNumber (fun vs H Q E h => ?_) (fun cdv A outer s H vs Q E hr h => ?_)
  · obtain ⟨v, d, rfl, _⟩ := h
    rfl
  · obtain ⟨v, d, rfl, hd, q⟩ := h
    refine ⟨_, pss_one (ps_ret (pe_and (pe_call OI hr (by rfl) I.m I.F.kp I.b .nil pass0 (pa_cons (pv 0) pa_nil)) (pe_one (pe_cmpR op_ge (pv 0) pe_int (nomark _))))), ?_⟩
    refine ⟨v, rfl, v, d, rfl, hd, _, rfl, ?_⟩
    cases hd with
    | int n => exact iteT ⟨_, rfl, n, 0, rfl, rfl, q⟩
    | non => exact iteF q
    | bl b => exact iteF q
    | str x => exact iteF q
    | lst a b => exact iteF q
    | tup a b => exact iteF q
theorem ok_store {f fP fN fM : Addr} {fd dP dN dM : FuncData} (F : Fun K "is_store" "is_store" (topS 13) f fd) (Pr : Def K mg "is_pair" 1 ["thing"] fP dP) (OP : FnOk P w K mg base CX0 1 fP dP ["thing"] (spG K pairB))
    (N : Def K mg "is_name" 6 ["thing"] fN dN) (ON : FnOk P w K mg base CX0 1 fN dN ["thing"] (spG K nameB)) (M : Def K mg "is_number" 4 ["thing"] fM dM) (OM : FnOk P w K mg base CX0 2 fM dM ["thing"] (spB K natB)) : FnOk P w K mg base CX0 3 f fd ["thing"] (spG K storeB) := by
  refine F.ok scStore (fun vs H Q E h => ?_) (fun cdv A outer s H vs Q E hr h => ?_)
  · obtain ⟨v, d, rfl, _⟩ := h
    rfl
  · obtain ⟨v, d, rfl, hd, ni, q⟩ := h
    have hr1 : Room 1 _ := hr.mono (by decide)
    refine ⟨_, pss_one (ps_ret (pe_and (pe_call OP hr1 (by rfl) Pr.m Pr.F.kp Pr.b .nil pass0 (pa_cons (pv 0) pa_nil)) (pe_and (pe_call ON hr1 (by rfl) N.m N.F.kp N.b .nil pass0 (pa_cons (pe_ix ix_tup (pv 0) pe_int (fun _ _ => rfl)) pa_nil)) (pe_one (pe_call OM hr (by rfl) M.m M.F.kp M.b .nil pass0 (pa_cons (pe_ix ix_tup (pv 0) pe_int (fun _ _ => rfl)) pa_nil)))))), ?_⟩
    refine ⟨v, rfl, v, d, rfl, hd, ni, fun H1 s1 => ⟨_, rfl, ?_⟩⟩
    cases z : pairB d
    · rw [store_not z] at q
      exact iteF (q H1 s1)
    · obtain ⟨a, b, rfl⟩ := pair_two z
      obtain ⟨p, xs, rfl, hT, hds, lx⟩ := tupD hd
      obtain ⟨va, vb, rfl⟩ := two_of lx
      obtain ⟨na, nb⟩ := nice2 ni
      cases hds with
      | cons da hds =>
        cases hds with
        | cons db _ =>
          have e : storeB (.tuple [a, b]) = (nameB a && natB b) := rfl
          rw [e] at q
          refine iteT ⟨.ref p, rfl, p, _, 0, va, rfl, rfl, tupS s1 hT, atI_nat (j := 0) rfl, va, a, rfl, dKeep s1 da, na, fun H2 s2 => ⟨_, rfl, ?_⟩⟩
          have s12 := s1.trans s2
          cases z1 : nameB a
          · rw [z1] at q
            exact iteF (q H2 s12)
          · rw [z1, Bool.true_and] at q
            exact iteT ⟨.ref p, rfl, p, _, 1, vb, rfl, rfl, tupS s12 hT, atI_nat (j := 1) rfl, vb, b, rfl, dKeep s12 db, q H2 s12⟩
theorem ok_letter {f fP fS : Addr} {fd dP dS : FuncData} (F : Fun K "is_letter" "is_letter" (topS 14) f fd) (Pr : Def K mg "is_pair" 1 ["thing"] fP dP) (OP : FnOk P w K mg base CX0 1 fP dP ["thing"] (spG K pairB))
    (S : Def K mg "is_store" 13 ["thing"] fS dS) (OS : FnOk P w K mg base CX0 3 fS dS ["thing"] (spG K storeB)) : FnOk P w K mg base CX0 4 f fd ["thing"] (spG K letterB) := by
  refine F.ok scLetter (fun vs H Q E h => ?_) (fun cdv A outer s H vs Q E hr h => ?_)
  · obtain ⟨v, d, rfl, _⟩ := h
    rfl
  · obtain ⟨v, d, rfl, hd, ni, q⟩ := h
    have hr1 : Room 1 _ := hr.mono (by decide)
    refine ⟨_, pss_one (ps_ret (pe_and (pe_call OP hr1 (by rfl) Pr.m Pr.F.kp Pr.b .nil pass0 (pa_cons (pv 0) pa_nil)) (pe_and (pe_call OS hr (by rfl) S.m S.F.kp S.b .nil pass0 (pa_cons (pe_ix ix_tup (pv 0) pe_int (fun _ _ => rfl)) pa_nil)) (pe_one (pe_call OS hr (by rfl) S.m S.F.kp S.b .nil pass0 (pa_cons (pe_ix ix_tup (pv 0) pe_int (fun _ _ => rfl)) pa_nil)))))), ?_⟩
    refine ⟨v, rfl, v, d, rfl, hd, ni, fun H1 s1 => ⟨_, rfl, ?_⟩⟩
    cases z : pairB d
    · rw [letter_not z] at q
      exact iteF (q H1 s1)
    · obtain ⟨a, b, rfl⟩ := pair_two z
      obtain ⟨p, xs, rfl, hT, hds, lx⟩ := tupD hd
      obtain ⟨va, vb, rfl⟩ := two_of lx
      obtain ⟨na, nb⟩ := nice2 ni
      cases hds with
      | cons da hds =>
        cases hds with
        | cons db _ =>
          have e : letterB (.tuple [a, b]) = (storeB a && storeB b) := rfl
          rw [e] at q
          refine iteT ⟨.ref p, rfl, p, _, 0, va, rfl, rfl, tupS s1 hT, atI_nat (j := 0) rfl, va, a, rfl, dKeep s1 da, na, fun H2 s2 => ⟨_, rfl, ?_⟩⟩
          have s12 := s1.trans s2
          cases z1 : storeB a
          · rw [z1] at q
            exact iteF (q H2 s12)
          · rw [z1, Bool.true_and] at q
            exact iteT ⟨.ref p, rfl, p, _, 1, vb, rfl, rfl, tupS s12 hT, atI_nat (j := 1) rfl, vb, b, rfl, dKeep s12 db, nb, fun H3 s3 => q H3 (s12.trans s3)⟩
end
end Kn


namespace Kn
open PySem PySem.Spec PyProof.Rows L2
theorem scEvent : FnScope nThing ["thing"] (defScope (topS 16)) := ⟨rfl, rfl, rfl, by decide +kernel, rfl, by decide +kernel, by decide +kernel⟩
theorem scEventL : FnScope nItem ["_law_item"] (defScope (topS 32)) := ⟨rfl, rfl, rfl, by decide +kernel, rfl, by decide +kernel, by decide +kernel⟩
def onoff : List Str := ["on", "off"]
def eventB : PyData → Bool
  | .tuple (.str k :: r) => if k = ("came" : Str) then letterB (.tuple r) else if k = ("guard" : Str) then decide (r.length = 1) && hasT onoff (r.getD 0 .none) else decide (k = ("note" : Str)) && (decide (r.length = 1) && nameB (r.getD 0 .none))
  | _ => false
theorem two_not {ds : List PyData} (h : ds.length ≠ 2) : storeB (.tuple ds) = false ∧ letterB (.tuple ds) = false := by
  have : pairB (.tuple ds) = false := decide_eq_false h
  exact ⟨store_not this, letter_not this⟩
section
variable {P : Program} {w : World} {K : PySem.W.Frag} {mg : Str → Option Value} {base : Heap}
theorem ok_storeL {f fN fW : Addr} {fd dN dW : FuncData} (F : Fun K "_law_is_store" "_law_is_store" (topS 30) f fd) (N : Def K mg "_law_is_label" 26 ["_law_item"] fN dN) (ON : FnOk P w K mg base CX0 1 fN dN ["_law_item"] (spG K nameB))
    (B : Def K mg "_law_is_whole" 25 ["_law_item"] fW dW) (OB : FnOk P w K mg base CX0 1 fW dW ["_law_item"] (spB K intB)) (mi : mg "isinstance" = none) (mt : mg "tuple" = none) (ml : mg "len" = none) : FnOk P w K mg base CX0 2 f fd ["_law_item"] (spG K storeB) := by
  refine F.ok scStoreL (fun vs H Q E h => ?_) (fun cdv A outer s H vs Q E hr h => ?_)
  · obtain ⟨v, d, rfl, _⟩ := h
    rfl
  · obtain ⟨v, d, rfl, hd, ni, q⟩ := h
    refine ⟨_, pss_cons (ps_if (PW.pt (pw_or (pt_not (pt_val (pe_callB call_isi (by rfl) mi boot_isinstance (pa_cons (pv 0) (pa_cons (pe_bltn (v := .ty "tuple") (by rfl) mt (by decide +kernel) rfl) pa_nil)))))
        (pw_or (pt_cmpR op_ne (pe_callB call_len_seq (by rfl) ml PySem.boot_len (pa_cons (pv 0) pa_nil)) pe_int (nomark _)) (pw_or1 (pt_not (pt_val (pe_call ON hr (by rfl) N.m N.F.kp N.b .nil pass0 (pa_cons (pe_ix ix_tup (pv 0) pe_int (fun _ _ => rfl)) pa_nil)))))))) (pss_one (ps_ret pe_bl)) pss_nil)
      (pss_one (ps_ret (pe_and (pe_call OB hr (by rfl) B.m B.F.kp B.b .nil pass0 (pa_cons (pe_ix ix_tup (pv 0) pe_int (fun _ _ => rfl)) pa_nil)) (pe_one (pe_cmpR op_ge (pe_ix ix_tup (pv 0) pe_int (fun _ _ => rfl)) pe_int (nomark _)))))), ?_⟩
    have q0 := q H (Same.refl H)
    refine ⟨v, rfl, v, .ty "tuple", _, _, _, rfl, .ty "tuple", ty_of hd, kit_tup, _, rfl, ?_⟩
    cases hd with
    | tup hT hds =>
      rename_i p xs ds
      have lx := dsLen hds
      refine iteF ⟨_, rfl, p, xs, rfl, .inr hT, rfl, _, rfl, ?_⟩
      by_cases two : ds.length = 2
      · rw [decide_eq_true (show V.int (xs.length : Nat) = V.int 2 by rw [lx, two]; rfl)]
        refine iteF ?_
        obtain ⟨a, b, rfl⟩ := two_of two
        obtain ⟨va, vb, rfl⟩ := two_of (lx.trans two)
        obtain ⟨na, nb⟩ := nice2 ni
        cases hds with
        | cons ha hds =>
          cases hds with
          | cons hb _ =>
            have e : storeB (.tuple [a, b]) = (nameB a && natB b) := rfl
            rw [e] at q
            refine ⟨.ref p, rfl, p, _, 0, va, rfl, rfl, hT, atI_nat (j := 0) rfl, va, a, rfl, ha, na, fun G1 s1 => ⟨_, rfl, ?_⟩⟩
            have hT1 := tupS s1 hT
            cases z1 : nameB a
            · rw [z1] at q
              exact iteT (q G1 s1)
            · rw [z1, Bool.true_and] at q
              refine iteF ⟨.ref p, rfl, p, _, 1, vb, rfl, rfl, hT1, atI_nat (j := 1) rfl, vb, b, rfl, dKeep s1 hb, _, rfl, ?_⟩
              have hb1 := dKeep s1 hb
              cases hb1 with
              | int n => exact iteT ⟨.ref p, rfl, p, _, 1, .int n, rfl, rfl, hT1, atI_nat (j := 1) rfl, n, 0, rfl, rfl, q G1 s1⟩
              | non => exact iteF (q G1 s1)
              | bl n => exact iteF (q G1 s1)
              | str n => exact iteF (q G1 s1)
              | lst x y => exact iteF (q G1 s1)
              | tup x y => exact iteF (q G1 s1)
      · rw [decide_eq_false (show ¬ V.int (xs.length : Nat) = V.int 2 from fun z => two (by have := V.int.inj z; omega))]
        rw [(two_not two).1] at q0
        exact iteT q0
    | non => exact iteT q0
    | bl b => exact iteT q0
    | int n => exact iteT q0
    | str n => exact iteT q0
    | lst a b => exact iteT q0
theorem ok_letterL {f fS : Addr} {fd dS : FuncData} (F : Fun K "_law_is_letter" "_law_is_letter" (topS 31) f fd) (S : Def K mg "_law_is_store" 30 ["_law_item"] fS dS) (OS : FnOk P w K mg base CX0 2 fS dS ["_law_item"] (spG K storeB))
    (mi : mg "isinstance" = none) (mt : mg "tuple" = none) (ml : mg "len" = none) : FnOk P w K mg base CX0 3 f fd ["_law_item"] (spG K letterB) := by
  refine F.ok scLetterL (fun vs H Q E h => ?_) (fun cdv A outer s H vs Q E hr h => ?_)
  · obtain ⟨v, d, rfl, _⟩ := h
    rfl
  · obtain ⟨v, d, rfl, hd, ni, q⟩ := h
    refine ⟨_, pss_one (ps_ret (pe_and (pe_callB call_isi (by rfl) mi boot_isinstance (pa_cons (pv 0) (pa_cons (pe_bltn (v := .ty "tuple") (by rfl) mt (by decide +kernel) rfl) pa_nil))) (pe_and (pe_cmpR op_eq (pe_callB call_len_seq (by rfl) ml PySem.boot_len (pa_cons (pv 0) pa_nil)) pe_int (nomark _))
      (pe_and (pe_call OS hr (by rfl) S.m S.F.kp S.b .nil pass0 (pa_cons (pe_ix ix_tup (pv 0) pe_int (fun _ _ => rfl)) pa_nil)) (pe_one (pe_call OS hr (by rfl) S.m S.F.kp S.b .nil pass0 (pa_cons (pe_ix ix_tup (pv 0) pe_int (fun _ _ => rfl)) pa_nil))))))), ?_⟩
    have q0 := q H (Same.refl H)
    refine ⟨v, rfl, v, .ty "tuple", _, _, _, rfl, .ty "tuple", ty_of hd, kit_tup, _, rfl, ?_⟩
    cases hd with
    | tup hT hds =>
      rename_i p xs ds
      have lx := dsLen hds
      refine iteT ⟨_, rfl, p, xs, rfl, .inr hT, rfl, _, rfl, ?_⟩
      by_cases two : ds.length = 2
      · rw [decide_eq_true (show V.int (xs.length : Nat) = V.int 2 by rw [lx, two]; rfl)]
        obtain ⟨a, b, rfl⟩ := two_of two
        obtain ⟨va, vb, rfl⟩ := two_of (lx.trans two)
        obtain ⟨na, nb⟩ := nice2 ni
        cases hds with
        | cons da hds =>
          cases hds with
          | cons db _ =>
            have e : letterB (.tuple [a, b]) = (storeB a && storeB b) := rfl
            rw [e] at q
            refine iteT ⟨.ref p, rfl, p, _, 0, va, rfl, rfl, hT, atI_nat (j := 0) rfl, va, a, rfl, da, na, fun H2 s2 => ⟨_, rfl, ?_⟩⟩
            cases z1 : storeB a
            · rw [z1] at q
              exact iteF (q H2 s2)
            · rw [z1, Bool.true_and] at q
              exact iteT ⟨.ref p, rfl, p, _, 1, vb, rfl, rfl, tupS s2 hT, atI_nat (j := 1) rfl, vb, b, rfl, dKeep s2 db, nb, fun H3 s3 => q H3 (s2.trans s3)⟩
      · rw [decide_eq_false (show ¬ V.int (xs.length : Nat) = V.int 2 from fun z => two (by have := V.int.inj z; omega))]
        rw [(two_not two).2] at q0
        exact iteF q0
    | non => exact iteF q0
    | bl b => exact iteF q0
    | int n => exact iteF q0
    | str n => exact iteF q0
    | lst a b => exact iteF q0
end
end Kn


namespace Kn
open PySem PySem.Spec PyProof.Rows L2
theorem scGuard : FnScope nThing ["thing"] (defScope (topS 15)) := ⟨rfl, rfl, rfl, by decide +kernel, rfl, by decide +kernel, by decide +kernel⟩
theorem word_shaped {x : Str} (h : goodD (.str x) = true) : SeqAt.shaped (.str x) = true := good_shaped h (Nat.zero_le _)
theorem onoff_shaped : ∀ t ∈ onoff, SeqAt.shaped (.str t) = true := by
  have h : ∀ t ∈ onoff, goodD (.str t) = true := by decide +kernel
  exact fun t ht => word_shaped (h t ht)
theorem came_shaped : SeqAt.shaped (.str ("came" : Str)) = true := word_shaped (by decide +kernel)
theorem guard_shaped : SeqAt.shaped (.str ("guard" : Str)) = true := word_shaped (by decide +kernel)
theorem note_shaped : SeqAt.shaped (.str ("note" : Str)) = true := word_shaped (by decide +kernel)
theorem eqv_word (d : PyData) (m : Str) (n : strB d = false) : PyData.eqv d (.str m) = false := by
  cases d <;> first | rfl | cases n
theorem eqv_word2 (x m : Str) : PyData.eqv (.str x) (.str m) = decide (x = m) := by
  show (x == m) = _
  by_cases h : x = m <;> simp [h]
theorem event_nil : eventB (.tuple []) = false := rfl
theorem event_no {d : PyData} {r : List PyData} (n : strB d = false) : eventB (.tuple (d :: r)) = false := by
  cases d <;> first | rfl | cases n
theorem has_no {ts : List Str} {d : PyData} (n : strB d = false) : hasT ts d = false := by
  cases z : hasT ts d
  · rfl
  · obtain ⟨m, rfl, _⟩ := hasT_true z
    cases n
section
variable {P : Program} {w : World} {K : PySem.W.Frag} {mg : Str → Option Value} {base : Heap}
theorem ok_guard {f : Addr} {fd : FuncData} (F : Fun K "is_guard" "is_guard" (topS 15) f fd) (mi : mg "isinstance" = none) (ms : mg "str" = none) : FnOk P w K mg base CX0 1 f fd ["thing"] (spG K (hasT onoff)) := by
  refine F.ok scGuard (fun vs H Q E h => ?_) (fun cdv A outer s H vs Q E hr h => ?_)
  · obtain ⟨v, d, rfl, _⟩ := h
    rfl
  · obtain ⟨v, d, rfl, hd, ni, q⟩ := h
    refine ⟨_, pss_one (ps_ret (pe_and (pe_callB call_isi (by rfl) mi boot_isinstance (pa_cons (pv 0) (pa_cons (pe_bltn (v := .ty "str") (by rfl) ms (by decide +kernel) rfl) pa_nil))) (pe_one (pe_cmpR (op_inT hr.units) (pv 0) (pe_tup (pa_cons pe_str (pa_cons pe_str pa_nil))) (by rfl))))), ?_⟩
    refine ⟨v, rfl, v, .ty "str", _, _, _, rfl, .ty "str", ty_of hd, kit_str, _, rfl, ?_⟩
    cases z : strB d
    · rw [has_no z] at q
      exact iteF (q H (Same.refl H))
    · cases hd with
      | str x => exact iteT ⟨.str x, rfl, (show 2 ≤ sizeLine by decide), fun p np => ⟨p, .str x, onoff, rfl, .inl (.inl upd_same), .str x, ni.shaped, onoff_shaped, q _ (same_new np)⟩⟩
      | _ => cases z
theorem ok_event {f fL fG fN : Addr} {fd dL dG dN : FuncData} (F : Fun K "is_event" "is_event" (topS 16) f fd) (L : Def K mg "is_letter" 14 ["thing"] fL dL) (OL : FnOk P w K mg base CX0 4 fL dL ["thing"] (spG K letterB))
    (G : Def K mg "is_guard" 15 ["thing"] fG dG) (OG : FnOk P w K mg base CX0 1 fG dG ["thing"] (spG K (hasT onoff))) (N : Def K mg "is_name" 6 ["thing"] fN dN) (ON : FnOk P w K mg base CX0 1 fN dN ["thing"] (spG K nameB))
    (mi : mg "isinstance" = none) (mt : mg "tuple" = none) (ml : mg "len" = none) : FnOk P w K mg base CX0 5 f fd ["thing"] (spG K eventB) := by
  refine F.ok scEvent (fun vs H Q E h => ?_) (fun cdv A outer s H vs Q E hr h => ?_)
  · obtain ⟨v, d, rfl, _⟩ := h
    rfl
  · obtain ⟨v, d, rfl, hd, ni, q⟩ := h
    have hr1 : Room 1 _ := hr.mono (by decide)
    refine ⟨_, pss_cons (ps_if (PW.pt (pw_or (pt_not (pt_val (pe_callB call_isi (by rfl) mi boot_isinstance (pa_cons (pv 0) (pa_cons (pe_bltn (v := .ty "tuple") (by rfl) mt (by decide +kernel) rfl) pa_nil)))))
        (pw_or1 (pt_cmpR op_eq (pe_callB call_len_seq (by rfl) ml PySem.boot_len (pa_cons (pv 0) pa_nil)) pe_int (nomark _))))) (pss_one (ps_ret pe_bl)) pss_nil)
      (pss_cons (ps_if (pt_cmpR (op_eqD hr.units) (pe_ix ix_tup (pv 0) pe_int (fun _ _ => rfl)) pe_str (nomark _)) (pss_one (ps_ret (pe_call OL hr (by rfl) L.m L.F.kp L.b .nil pass0 (pa_cons (pe_slice sl_tupA (pv 0) (po_some pe_int) po_none) pa_nil)))) pss_nil)
      (pss_cons (ps_if (pt_cmpR (op_eqD hr.units) (pe_ix ix_tup (pv 0) pe_int (fun _ _ => rfl)) pe_str (nomark _)) (pss_one (ps_ret (pe_and (pe_cmpR op_eq (pe_callB call_len_seq (by rfl) ml PySem.boot_len (pa_cons (pv 0) pa_nil)) pe_int (nomark _)) (pe_one (pe_call OG hr1 (by rfl) G.m G.F.kp G.b .nil pass0 (pa_cons (pe_ix ix_tup (pv 0) pe_int (fun _ _ => rfl)) pa_nil)))))) pss_nil)
      (pss_one (ps_ret (pe_and (pe_cmpR (op_eqD hr.units) (pe_ix ix_tup (pv 0) pe_int (fun _ _ => rfl)) pe_str (nomark _)) (pe_and (pe_cmpR op_eq (pe_callB call_len_seq (by rfl) ml PySem.boot_len (pa_cons (pv 0) pa_nil)) pe_int (nomark _)) (pe_one (pe_call ON hr1 (by rfl) N.m N.F.kp N.b .nil pass0 (pa_cons (pe_ix ix_tup (pv 0) pe_int (fun _ _ => rfl)) pa_nil))))))))), ?_⟩
    have q0 := q H (Same.refl H)
    refine ⟨v, rfl, v, .ty "tuple", _, _, _, rfl, .ty "tuple", ty_of hd, kit_tup, _, rfl, ?_⟩
    cases z : tupB d
    · refine iteT ?_
      cases d <;> first | exact q0 | cases z
    · cases hd with
      | tup hT hds =>
        rename_i p xs ds
        have lx := dsLen hds
        refine iteF ⟨_, rfl, p, xs, rfl, .inr hT, rfl, _, rfl, ?_⟩
        cases ds with
        | nil =>
          rw [decide_eq_true (show V.int (xs.length : Nat) = V.int 0 by rw [lx]; rfl)]
          exact iteT q0
        | cons d0 r =>
          rw [decide_eq_false (show ¬ V.int (xs.length : Nat) = V.int 0 from fun z => by have := V.int.inj z; rw [lx] at this; exact absurd this (by simp; omega))]
          refine iteF ?_
          have n0 : Nice d0 := ni.get (i := 0) rfl
          cases hds with
          | cons h0 hrest =>
            rename_i v0 vr
            have len2 : decide (V.int ((v0 :: vr).length : Nat) = V.int 2) = decide (r.length = 1) := by
              have e : (v0 :: vr).length = r.length + 1 := lx
              rw [e]
              by_cases y : r.length = 1
              · rw [y]; rfl
              · rw [decide_eq_false y]
                exact decide_eq_false fun z => y (by have := V.int.inj z; omega)
            have one : r.length = 1 → ∃ d1 v1, r = [d1] ∧ vr = [v1] ∧ Dp K H v1 d1 ∧ Nice d1 := by
              intro y
              have ly : vr.length = r.length := by have := lx; simpa using this
              match r, vr, y, ly, hrest, ni with
              | [d1], [v1], _, _, .cons h1 _, ni => exact ⟨d1, v1, rfl, rfl, h1, ni.get (i := 1) rfl⟩
            refine ⟨.ref p, rfl, p, _, 0, v0, rfl, rfl, hT, atI_nat (j := 0) rfl, d0, .str "came", h0, .str "came", n0.shaped, came_shaped, _, rfl, ?_⟩
            cases zs : strB d0
            · rw [eqv_word d0 "came" zs]
              rw [event_no zs] at q0
              refine iteF ?_
              refine ⟨.ref p, rfl, p, _, 0, v0, rfl, rfl, hT, atI_nat (j := 0) rfl, d0, .str "guard", h0, .str "guard", n0.shaped, guard_shaped, _, rfl, ?_⟩
              rw [eqv_word d0 "guard" zs]
              refine iteF ?_
              refine ⟨.ref p, rfl, p, _, 0, v0, rfl, rfl, hT, atI_nat (j := 0) rfl, d0, .str "note", h0, .str "note", n0.shaped, note_shaped, _, rfl, ?_⟩
              rw [eqv_word d0 "note" zs]
              exact iteF q0
            · cases d0 with
              | str k =>
                rw [eqv_word2]
                have ev : eventB (.tuple (.str k :: r)) = (if k = ("came" : Str) then letterB (.tuple r) else if k = ("guard" : Str) then decide (r.length = 1) && hasT onoff (r.getD 0 .none) else decide (k = ("note" : Str)) && (decide (r.length = 1) && nameB (r.getD 0 .none))) := rfl
                by_cases k1 : k = ("came" : Str)
                · rw [ev, if_pos k1] at q
                  rw [decide_eq_true k1]
                  refine iteT ⟨.ref p, rfl, 1, rfl, ?_⟩
                  dsimp only [tNoPart]
                  refine slA_drop (k := 1) (.tup hT (.cons h0 hrest)) fun r' H' s' d' => ⟨r', .tuple r, rfl, d', ?_, fun H2 s2 => q H2 (s'.trans s2)⟩
                  exact ⟨(ni.tm.drop 1).g, Nat.le_trans (show (PyData.tuple r).depth ≤ (PyData.tuple (.str k :: r)).depth from by show PyData.depthAll r + 1 ≤ max 0 (PyData.depthAll r) + 1; omega) ni.dp, Nat.le_trans (show nodesD (.tuple r) ≤ nodesD (.tuple (.str k :: r)) from by show 1 + nodesDs r ≤ 1 + ((1 + k.length) + nodesDs r); omega) ni.n⟩
                · rw [ev, if_neg k1] at q
                  rw [decide_eq_false k1]
                  refine iteF ⟨.ref p, rfl, p, _, 0, v0, rfl, rfl, hT, atI_nat (j := 0) rfl, .str k, .str "guard", h0, .str "guard", n0.shaped, guard_shaped, _, rfl, ?_⟩
                  rw [eqv_word2]
                  by_cases k2 : k = ("guard" : Str)
                  · rw [if_pos k2] at q
                    rw [decide_eq_true k2]
                    refine iteT ⟨.ref p, rfl, p, _, rfl, .inr hT, rfl, _, rfl, ?_⟩
                    rw [len2]
                    by_cases y : r.length = 1
                    · obtain ⟨d1, v1, rfl, rfl, h1, n1⟩ := one y
                      refine iteT ⟨.ref p, rfl, p, _, 1, v1, rfl, rfl, hT, atI_nat (j := 1) rfl, v1, d1, rfl, h1, n1, fun H2 s2 => q H2 s2⟩
                    · rw [decide_eq_false y] at q ⊢
                      exact iteF (q H (Same.refl H))
                  · rw [if_neg k2] at q
                    rw [decide_eq_false k2]
                    refine iteF ⟨.ref p, rfl, p, _, 0, v0, rfl, rfl, hT, atI_nat (j := 0) rfl, .str k, .str "note", h0, .str "note", n0.shaped, note_shaped, _, rfl, ?_⟩
                    rw [eqv_word2]
                    by_cases k3 : k = ("note" : Str)
                    · rw [decide_eq_true k3] at q ⊢
                      refine iteT ⟨.ref p, rfl, p, _, rfl, .inr hT, rfl, _, rfl, ?_⟩
                      rw [len2]
                      by_cases y : r.length = 1
                      · obtain ⟨d1, v1, rfl, rfl, h1, n1⟩ := one y
                        refine iteT ⟨.ref p, rfl, p, _, 1, v1, rfl, rfl, hT, atI_nat (j := 1) rfl, v1, d1, rfl, h1, n1, fun H2 s2 => q H2 s2⟩
                      · rw [decide_eq_false y] at q ⊢
                        exact iteF (q H (Same.refl H))
                    · rw [decide_eq_false k3] at q ⊢
                      exact iteF (q H (Same.refl H))
              | _ => cases zs
      | _ => cases z
end
end Kn


namespace Kn
open PySem PySem.Spec PyProof.Rows L2
theorem letter_two {a b : PyData} : letterB (.tuple [a, b]) = (storeB a && storeB b) := rfl
theorem letter_len {r : List PyData} (h : r.length ≠ 2) : letterB (.tuple r) = false := (two_not h).2
section
variable {P : Program} {w : World} {K : PySem.W.Frag} {mg : Str → Option Value} {base : Heap}
theorem ok_eventL {f fS fN : Addr} {fd dS dN : FuncData} (F : Fun K "_law_is_event" "_law_is_event" (topS 32) f fd) (S : Def K mg "_law_is_store" 30 ["_law_item"] fS dS) (OS : FnOk P w K mg base CX0 2 fS dS ["_law_item"] (spG K storeB))
    (N : Def K mg "_law_is_label" 26 ["_law_item"] fN dN) (ON : FnOk P w K mg base CX0 1 fN dN ["_law_item"] (spG K nameB)) (mi : mg "isinstance" = none) (mt : mg "tuple" = none) (ml : mg "len" = none) (ms : mg "str" = none) : FnOk P w K mg base CX0 3 f fd ["_law_item"] (spG K eventB) := by
  refine F.ok scEventL (fun vs H Q E h => ?_) (fun cdv A outer s H vs Q E hr h => ?_)
  · obtain ⟨v, d, rfl, _⟩ := h
    rfl
  · obtain ⟨v, d, rfl, hd, ni, q⟩ := h
    have hr1 : Room 1 _ := hr.mono (by decide)
    refine ⟨_, (pss_cons (ps_if (PW.pt (pw_or (pt_not (pt_val (pe_callB call_isi (by rfl) mi boot_isinstance (pa_cons (pv 0) (pa_cons (pe_bltn (v := .ty "tuple") (by rfl) mt (by decide +kernel) rfl) pa_nil))))) (pw_or (pt_cmpR op_lt (pe_callB call_len_seq (by rfl) ml PySem.boot_len (pa_cons (pv 0) pa_nil)) pe_int (nomark _)) (pw_or1 (pt_not (pt_val (pe_callB call_isi (by rfl) mi boot_isinstance (pa_cons (pe_ix ix_tup (pv 0) pe_int (fun _ _ => rfl)) (pa_cons (pe_bltn (v := .ty "str") (by rfl) ms (by decide +kernel) rfl) pa_nil))))))))) (pss_one (ps_ret pe_bl)) pss_nil)
      (pss_cons (ps_if (pt_cmpR (op_eqD hr.units) (pe_ix ix_tup (pv 0) pe_int (fun _ _ => rfl)) pe_str (nomark _)) (pss_one (ps_ret (pe_and (pe_cmpR op_eq (pe_callB call_len_seq (by rfl) ml PySem.boot_len (pa_cons (pv 0) pa_nil)) pe_int (nomark _)) (pe_and (pe_call OS hr (by rfl) S.m S.F.kp S.b .nil pass0 (pa_cons (pe_ix ix_tup (pv 0) pe_int (fun _ _ => rfl)) pa_nil)) (pe_one (pe_call OS hr (by rfl) S.m S.F.kp S.b .nil pass0 (pa_cons (pe_ix ix_tup (pv 0) pe_int (fun _ _ => rfl)) pa_nil))))))) pss_nil)
      (pss_cons (ps_if (pt_cmpR (op_eqD hr.units) (pe_ix ix_tup (pv 0) pe_int (fun _ _ => rfl)) pe_str (nomark _)) (pss_one (ps_ret (pe_and (pe_cmpR op_eq (pe_callB call_len_seq (by rfl) ml PySem.boot_len (pa_cons (pv 0) pa_nil)) pe_int (nomark _)) (pe_and (pe_callB call_isi (by rfl) mi boot_isinstance (pa_cons (pe_ix ix_tup (pv 0) pe_int (fun _ _ => rfl)) (pa_cons (pe_bltn (v := .ty "str") (by rfl) ms (by decide +kernel) rfl) pa_nil))) (pe_one (pe_cmpR (op_inT hr.units) (pe_ix ix_tup (pv 0) pe_int (fun _ _ => rfl)) (pe_tup (pa_cons pe_str (pa_cons pe_str pa_nil))) (by rfl))))))) pss_nil)
      (pss_one (ps_ret (pe_and (pe_cmpR (op_eqD hr.units) (pe_ix ix_tup (pv 0) pe_int (fun _ _ => rfl)) pe_str (nomark _)) (pe_and (pe_cmpR op_eq (pe_callB call_len_seq (by rfl) ml PySem.boot_len (pa_cons (pv 0) pa_nil)) pe_int (nomark _)) (pe_one (pe_call ON hr1 (by rfl) N.m N.F.kp N.b .nil pass0 (pa_cons (pe_ix ix_tup (pv 0) pe_int (fun _ _ => rfl)) pa_nil)))))))))), ?_⟩
    have q0 := q H (Same.refl H)
    refine ⟨v, rfl, v, .ty "tuple", _, _, _, rfl, .ty "tuple", ty_of hd, kit_tup, _, rfl, ?_⟩
    cases z : tupB d
    · refine iteT ?_
      cases d <;> first | exact q0 | cases z
    · cases hd with
      | tup hT hds =>
        rename_i p xs ds
        have lx := dsLen hds
        refine iteF ⟨_, rfl, p, xs, rfl, .inr hT, _, _, rfl, rfl, _, rfl, ?_⟩
        match ds, hds, lx, ni, q, q0 with
        | [], _, lx, _, _, q0 =>
          rw [decide_eq_true (show ((xs.length : Nat) : Int) < 2 by rw [lx]; decide)]
          exact iteT q0
        | [d0], _, lx, _, _, q0 =>
          rw [decide_eq_true (show ((xs.length : Nat) : Int) < 2 by rw [lx]; show ((1 : Nat) : Int) < 2; decide)]
          refine iteT ?_
          have e : eventB (.tuple [d0]) = false := by
            cases zs : strB d0
            · exact event_no zs
            · cases d0 with
              | str k =>
                show (if k = ("came" : Str) then letterB (.tuple []) else if k = ("guard" : Str) then decide (([] : List PyData).length = 1) && hasT onoff .none else decide (k = ("note" : Str)) && (decide (([] : List PyData).length = 1) && nameB .none)) = false
                by_cases k1 : k = ("came" : Str)
                · rw [if_pos k1]; rfl
                · rw [if_neg k1]
                  by_cases k2 : k = ("guard" : Str)
                  · rw [if_pos k2]; rfl
                  · rw [if_neg k2, decide_eq_false (show ¬ ([] : List PyData).length = 1 by decide), Bool.false_and, Bool.and_false]
              | _ => cases zs
          rw [e] at q0
          exact q0
        | d0 :: d1 :: r, .cons (v := v0) h0 (.cons (v := v1) (vs := vr) h1 hrest), lx, ni, q, q0 =>
          have lr : vr.length = r.length := by simpa using lx
          rw [decide_eq_false (show ¬ (((v0 :: v1 :: vr).length : Nat) : Int) < 2 by simp; omega)]
          have n0 : Nice d0 := ni.get (i := 0) rfl
          have n1 : Nice d1 := ni.get (i := 1) rfl
          have l3 : decide (V.int ((v0 :: v1 :: vr).length : Nat) = V.int 3) = decide (r.length = 1) := by
            by_cases y : r.length = 1
            · rw [decide_eq_true y]
              exact decide_eq_true (by show V.int ((vr.length + 1 + 1 : Nat) : Int) = _; rw [lr, y]; rfl)
            · rw [decide_eq_false y]
              exact decide_eq_false fun z => y (by have := V.int.inj z; simp at this; omega)
          have l2 : decide (V.int ((v0 :: v1 :: vr).length : Nat) = V.int 2) = decide (r.length = 0) := by
            by_cases y : r.length = 0
            · rw [decide_eq_true y]
              exact decide_eq_true (by show V.int ((vr.length + 1 + 1 : Nat) : Int) = _; rw [lr, y]; rfl)
            · rw [decide_eq_false y]
              exact decide_eq_false fun z => y (by have := V.int.inj z; simp at this; omega)
          refine iteF ⟨.ref p, rfl, p, _, 0, v0, rfl, rfl, hT, atI_nat (j := 0) rfl, v0, .ty "str", _, _, _, rfl, .ty "str", ty_of h0, kit_str, _, rfl, ?_⟩
          cases zs : strB d0
          · refine iteT ?_
            rw [event_no zs] at q0
            exact q0
          · cases d0 with
            | str k =>
              refine iteF ⟨.ref p, rfl, p, _, 0, v0, rfl, rfl, hT, atI_nat (j := 0) rfl, .str k, .str "came", h0, .str "came", n0.shaped, came_shaped, _, rfl, ?_⟩
              rw [eqv_word2]
              have ev : eventB (.tuple (.str k :: d1 :: r)) = (if k = ("came" : Str) then letterB (.tuple (d1 :: r)) else if k = ("guard" : Str) then decide ((d1 :: r).length = 1) && hasT onoff d1 else decide (k = ("note" : Str)) && (decide ((d1 :: r).length = 1) && nameB d1)) := rfl
              have e1 : decide ((d1 :: r).length = 1) = decide (r.length = 0) := by
                by_cases y : r.length = 0
                · rw [decide_eq_true y]
                  exact decide_eq_true (by simp at y; simp [y])
                · rw [decide_eq_false y]
                  exact decide_eq_false (by simp at y; simp [y])
              by_cases k1 : k = ("came" : Str)
              · rw [ev, if_pos k1] at q
                rw [decide_eq_true k1]
                refine iteT ⟨.ref p, rfl, p, _, rfl, .inr hT, rfl, _, rfl, ?_⟩
                rw [l3]
                by_cases y : r.length = 1
                · rw [decide_eq_true y]
                  obtain ⟨d2, rfl⟩ := List.length_eq_one_iff.mp y
                  cases hrest with
                  | cons h2 hn =>
                    cases hn
                    rename_i v2
                    have n2 : Nice d2 := ni.get (i := 2) rfl
                    rw [letter_two] at q
                    refine iteT ⟨.ref p, rfl, p, _, 1, v1, rfl, rfl, hT, atI_nat (j := 1) rfl, v1, d1, rfl, h1, n1, fun G s => ⟨_, rfl, ?_⟩⟩
                    cases z1 : storeB d1
                    · rw [z1] at q
                      exact iteF (q G s)
                    · rw [z1, Bool.true_and] at q
                      exact iteT ⟨.ref p, rfl, p, _, 2, v2, rfl, rfl, tupS s hT, atI_nat (j := 2) rfl, v2, d2, rfl, dKeep s h2, n2, fun G2 s2 => q G2 (s.trans s2)⟩
                · rw [decide_eq_false y]
                  rw [letter_len (show (d1 :: r).length ≠ 2 from fun z => y (by simpa using z))] at q
                  exact iteF (q H (Same.refl H))
              · rw [ev, if_neg k1] at q
                rw [decide_eq_false k1]
                refine iteF ⟨.ref p, rfl, p, _, 0, v0, rfl, rfl, hT, atI_nat (j := 0) rfl, .str k, .str "guard", h0, .str "guard", n0.shaped, guard_shaped, _, rfl, ?_⟩
                rw [eqv_word2]
                by_cases k2 : k = ("guard" : Str)
                · rw [if_pos k2, e1] at q
                  rw [decide_eq_true k2]
                  refine iteT ⟨.ref p, rfl, p, _, rfl, .inr hT, rfl, _, rfl, ?_⟩
                  rw [l2]
                  by_cases y : r.length = 0
                  · rw [decide_eq_true y] at q ⊢
                    rw [Bool.true_and] at q
                    refine iteT ⟨.ref p, rfl, p, _, 1, v1, rfl, rfl, hT, atI_nat (j := 1) rfl, v1, .ty "str", _, _, _, rfl, .ty "str", ty_of h1, kit_str, _, rfl, ?_⟩
                    cases zt : strB d1
                    · rw [has_no zt] at q
                      exact iteF (q H (Same.refl H))
                    · cases d1 with
                      | str m =>
                        refine iteT ⟨.ref p, rfl, p, _, 1, v1, rfl, rfl, hT, atI_nat (j := 1) rfl, (show 2 ≤ sizeLine by decide), fun t nt => ?_⟩
                        exact ⟨t, .str m, onoff, rfl, .inl (.inl upd_same), dKeep (same_new nt) h1, n1.shaped, onoff_shaped, q _ (same_new nt)⟩
                      | _ => cases zt
                  · rw [decide_eq_false y] at q ⊢
                    exact iteF (q H (Same.refl H))
                · rw [if_neg k2, e1] at q
                  rw [decide_eq_false k2]
                  refine iteF ⟨.ref p, rfl, p, _, 0, v0, rfl, rfl, hT, atI_nat (j := 0) rfl, .str k, .str "note", h0, .str "note", n0.shaped, note_shaped, _, rfl, ?_⟩
                  rw [eqv_word2]
                  by_cases k3 : k = ("note" : Str)
                  · rw [decide_eq_true k3] at q ⊢
                    rw [Bool.true_and] at q
                    refine iteT ⟨.ref p, rfl, p, _, rfl, .inr hT, rfl, _, rfl, ?_⟩
                    rw [l2]
                    by_cases y : r.length = 0
                    · rw [decide_eq_true y] at q ⊢
                      rw [Bool.true_and] at q
                      exact iteT ⟨.ref p, rfl, p, _, 1, v1, rfl, rfl, hT, atI_nat (j := 1) rfl, v1, d1, rfl, h1, n1, fun H2 s2 => q H2 s2⟩
                    · rw [decide_eq_false y] at q ⊢
                      exact iteF (q H (Same.refl H))
                  · rw [decide_eq_false k3] at q ⊢
                    exact iteF (q H (Same.refl H))
            | _ => cases zs
      | _ => cases z
end
end Kn


namespace Kn
open PySem PySem.Spec PyProof.Rows L2
/-! ### sum of a tuple of numbers -/
section
variable {prog : Program} {w : World} {A : Around} {E : Value → Shared → Prop} {s : Shared} {l : Addr} {xs : Array (Int × Tok)}
theorem iter_intTup {Q : Value → Shared → Prop} (hl : s.heap.IsTuple l (intItems xs))
    (h : ∀ s₂ : Shared, s₂ = { s with heap := s.heap.push { cls := .type "tuple_iterator", data := .fields #[.ref l, .int 0 0] } } →
      (s₂.heap.IsTupleIter s.heap.objs.size l 0 ∧ s₂.heap.IsTuple l (intItems xs)) → (∀ b ∈ [s.heap.objs.size, l], b < s₂.heap.objs.size) → l ≠ s.heap.objs.size → Q (.ref s.heap.objs.size) s₂) :
    wpAny (model prog w) A (pyIter (.ref l)) Q E s := by
  have hlt : l < s.heap.objs.size := by obtain ⟨_, e, _⟩ := hl; exact Heap.lt_size e
  refine wpAny_pyIter_tuple hl (h _ rfl ⟨⟨_, Heap.get?_push_size _ rfl, rfl, rfl⟩, hl.push _⟩ (fun b hb => ?_) (Nat.ne_of_lt hlt))
  show b < (s.heap.push _).objs.size
  rw [Heap.size_push]
  rcases List.mem_cons.mp hb with rfl | hb
  · exact Nat.lt_succ_self _
  · rcases List.mem_cons.mp hb with rfl | hb
    · exact Nat.lt_succ_of_lt hlt
    · cases hb
theorem old_keptT {h' : Heap} (hk : ∀ b o, b ∉ [s.heap.objs.size] → (s.heap.push { cls := .type "tuple_iterator", data := .fields #[.ref l, .int 0 0] }).get? b = some o → h'.get? b = some o) :
    ∀ b o, s.heap.get? b = some o → h'.get? b = some o := fun b o e => by
  refine hk b o (fun hm => ?_) (Heap.get?_push_of_some _ e)
  rcases List.mem_cons.mp hm with e1 | hm
  · exact absurd (e1 ▸ Heap.lt_size e) (Nat.lt_irrefl _)
  · cases hm
theorem sum_tupG {Q : Value → Shared → Prop} (hh : A.handled = none) (hl : s.heap.IsTuple l (intItems xs))
    (h : ∀ h' tk t', (∀ b o, s.heap.get? b = some o → h'.get? b = some o) → Q (.int (preSum (numAt xs) xs.size) t') { s with heap := h', toks := tk }) :
    wpAny (model prog w) A (call (.builtin "sum") [.ref l]) Q E s := by
  refine call_sum_walkG (iter_intTup hl fun s₂ e st hfp hlI => ?_)
  subst e
  refine ⟨_, _, _, _, _, _, numAt xs, rfl, Walks.tuple (A := A.in1) hh _ l hlI (intItems xs), st, hfp, (fun _ _ => intItems_at), fun h' tk t' hk => ?_⟩
  have := h h' tk t' (old_keptT hk)
  simpa [intItems] using this
theorem sum_rawT {its : List Value} {ns : List Int} {Q : Value → Shared → Prop} (hh : A.handled = none) (hl : s.heap.IsTuple l its.toArray) (hi : IntsAre its ns)
    (h : ∀ h' tk t', (∀ b o, s.heap.get? b = some o → h'.get? b = some o) → Q (.int ns.sum t') { s with heap := h', toks := tk }) : wpAny (model prog w) A (call (.builtin "sum") [.ref l]) Q E s := by
  obtain ⟨xs, e⟩ := hi.allInts.items
  have hn : numsOf (intItems xs).toList = ns := by rw [← e]; exact hi.numsOf
  rw [nums_intItems] at hn
  rw [e] at hl
  refine sum_tupG hh hl fun h' tk t' hk => ?_
  have := h h' tk t' hk
  rw [preSum_eq, List.take_of_length_le (by simp), hn]; exact this
end
def rSumT (K : PySem.W.Frag) : List V → Hp → VK → Prop := fun vs H Q => ∃ (a : Addr) (ns : List Int), vs = [V.ref a] ∧ SqT K H a (ns.map V.int) ∧ Q (.int ns.sum) H
section
variable {X : Cx}
theorem cr_sumT (hc : X.calm = true) : CallR X (.builtin "sum") (rSumT X.K) := by
  intro pins s σ H vs us Q I r h
  obtain ⟨a, ns, rfl, hs, q⟩ := h
  obtain ⟨its, rv, hl, _⟩ := I.tuple hs
  rw [Vals.ref1 r]
  exact sum_rawT (I.ok.hd hc) hl rv.ints fun h' tk t' hk => ⟨.int _, H, I.kept hk, ⟨_, rfl⟩, q⟩
/-! ### tuple * n, n from 1 on -/
theorem tuple_mulW1 (l : Addr) (items : Array Value) (n : Nat) (dd : Option Addr) (sl : Array (Option Value)) (u : Tok) :
    Meets (Builtin.«tuple.__mul__» ⟨[.ref l, .int 1 u], []⟩) (fun _ R s => s.heap.get? l = some { cls := .type "tuple", dict := dd, data := .seq items n, slots := sl } ∧ R (.ok (.ret (Value.ref l))) s) :=
  .of_wp fun prog w A R s h => by
    obtain ⟨hp, g, d, tk, os⟩ := s
    obtain ⟨hl, h⟩ := h
    have f1 := AutoSeq1.idx_int
    wp_walk using wpAny_loadPart' hl
    all_goals exact ⟨_, rfl, h⟩
def rMulT (K : PySem.W.Frag) : R2 := fun x y H Q => ∃ l k xs, x = .ref l ∧ y = .int k ∧ SqT K H l xs ∧ xs ≠ [] ∧ 1 ≤ k ∧ k ≤ 1000 ∧ xs.length ≤ 1000 ∧ (k = 1 → Q (.ref l) H) ∧ ∀ p, H p = none → Q (.ref p) (upd H p (.tup (List.replicate k.toNat xs).flatten))
theorem op_mulT : OpR X (binaryOp .Mult) (rMulT X.K) := by
  intro pins s σ H x y v u Q I rx ry h
  obtain ⟨l, k, xs, rfl, rfl, hT, hne, h1, h2, hz, q1, q⟩ := h
  by_cases k1 : k = 1
  · subst k1
    cases rx
    obtain ⟨t, rfl⟩ := ry
    obtain ⟨its, r, ⟨⟨cls, dd, data, sl⟩, ho, hc, n, hd⟩, hs⟩ := I.tuple hT
    simp only at hc hd
    subst hc hd
    refine wpAny_binaryOp_repeat_ref (T := "tuple") (U := "int") (by decide) ⟨_, ho, rfl⟩ (fun s' => typeIs_int s' 1 t) noFill_tuple_mul F.fills_int_mul F.slot_int_rmul repeat_tuple F.slot_int_index.lookup
      (call_meets F.slot_int_rmul (typeIs_int s 1 t) F.entry_int_rmul (F.args_int_rmul_2 _ _) (int_rmul_tuple 1 t l its.toArray n dd sl)
        ⟨ho, rfl, ⟨_, ho, rfl⟩, call_meets F.slot_tuple_mul ⟨_, ho, rfl⟩ F.entry_tuple_mul (F.args_tuple_mul_2 _ _) (tuple_mulW1 l its.toArray n dd sl t) ⟨ho, ?_⟩⟩)
    exact ⟨.ref l, H, I, rfl, q1 rfl⟩
  · exact op_repT pins s σ H _ _ v u Q I rx ry ⟨l, k, xs, rfl, rfl, hT, hne, by omega, h2, hz, q⟩
/-! ### tuple(list), the new object known -/
def rTupF (K : PySem.W.Frag) : List V → Hp → VK → Prop := fun xs H Q => ∃ p ys, xs = [.ref p] ∧ SqL K H p ys ∧ ∀ l o, H l = none → o.cls = .type "tuple" → o.dict = none → Q (.ref l) (upd H l (.frz o (.tup ys)))
theorem call_tupleF : CallR X (.type "tuple") (rTupF X.K) := by
  intro pins s σ H xs us Q I r h
  obtain ⟨p, ys, rfl, hq, q⟩ := h
  obtain ⟨u, rfl, rx⟩ := vals1 r
  cases rx
  obtain ⟨its, r', pl, hz⟩ := I.list hq
  have hlen := r'.length
  refine call_tuple_list pl.isList (fun h' kp => ?_) (by simp only [List.size_toArray] <;> omega)
  have I1 : Inv X pins σ H { s with heap := h' } := I.kept (t' := s.toks) kp
  have I2 : Inv X pins σ (upd H h'.objs.size (.frz { cls := .type "tuple", data := .seq its.toArray } (.tup ys))) { s with heap := h'.push { cls := .type "tuple", data := .seq its.toArray } } :=
    I1.laid (t' := s.toks) (fun b o e => Heap.get?_push_of_some _ e) (Nat.le_refl _) (show ObjOk X.prog X.w _ _ _ (.frz _ (.tup ys)) from ⟨Heap.get?_push_size _ rfl, hz, its, r', IsTup.new _ _⟩)
  exact ⟨.ref h'.objs.size, _, I2, rfl, q _ _ (I1.hok.fresh (Nat.le_refl _)) rfl rfl⟩
/-! ### t.index(x), t a tuple whose object is known -/
def tTIdx (K : PySem.W.Frag) (to : TE) (t : TA) : TE := fun σ H Q => to σ H fun x H1 => ∃ p o ys, x = .ref p ∧ H1 p = some (.frz o (.tup ys)) ∧ o.cls = .type "tuple" ∧ o.dict = none ∧
  t σ H1 fun xs H2 => ∃ (zs : List Str) (z : Str) (j : Nat), xs = [.str z] ∧ SqT K H2 p (zs.map V.str) ∧ zs[j]? = some z ∧ (∀ m, m < j → zs[m]? ≠ some z) ∧ Q (.int (j : Nat)) H2
variable {o e : Expr} {es : List Expr} {to : TE} {t : TA} {apos cpos : Pos}
theorem pe_tidx (ho : PE X o to) (ha : PA X (e :: es) t)
    (hbase : attributeBase o "index" X.env (eval o X.env) = eval o X.env := by rfl)
    (hfew : ((backTo cpos (starEach (e :: es) X.env)).all (fun x => !x.1) && (backToKw cpos (keywordEach [] X.env)).all (fun x => x.1.isSome)
      && decide ((e :: es).length + ([] : List Keyword).length + (if ([] : List Keyword).isEmpty then 0 else 1) < 30)) = true := by rfl)
    (hline : (apos.endLine == cpos.line) = true := by rfl) (hs : starEach (e :: es) X.env = (false, eval e X.env) :: starEach es X.env := by rfl) (hplain : (backTo cpos (starEach es X.env)).any (·.1) = false := by rfl) :
    PE X (.Call (.Attribute o "index" apos) (e :: es) [] cpos) (tTIdx X.K to t) := by
  refine ⟨fun pins s σ H Q I h => ?_⟩
  refine wpAny_Call_method_late hbase hfew hline rfl (thn (ho.run pins s σ H _ I h) fun v s1 ⟨x, H1, I1, r1, q1⟩ => ?_)
  obtain ⟨p, ob, ys, rfl, hp, hc, hd, q1⟩ := q1
  have hb : s1.heap.get? p = some ob := (I1.hok p _ hp).1
  cases r1
  refine ⟨"tuple", "tuple.index", PySem.F.plainAttrs_tuple, PySem.F.slot_tuple_index, PySem.F.type_tuple_index, ⟨ob, hb, hc⟩, fun a e => ?_, ?_⟩
  · cases e
    exact ⟨ob, hb, hd⟩
  have hA := ha.run cpos pins s1 σ H1 _ I1 q1
  rw [hs] at hA ⊢
  refine Calls.callWith_builtin (by show (false || (backTo cpos (starEach es X.env)).any (·.1)) = false; rw [hplain] <;> rfl) (Calls.evalArgs_plain ?_)
  exact thn hA fun us s2 ⟨vs, H2, I2, r2, zs, z, j, e1, e2, e3, e4, q2⟩ => mt_tup_index pins s2 σ H2 (.ref p) vs (.ref p) us Q I2 rfl r2 ⟨p, zs, z, j, rfl, e1, e2, e3, e4, q2⟩
end
end Kn


namespace Kn
open PySem PySem.Spec PyProof.Rows L2
/-! ### expressions that make data of what the slots hold -/
section
variable {K : PySem.W.Frag} {σ : L2.St} {H0 : Hp}
def DX (K : PySem.W.Frag) (σ : L2.St) (H0 : Hp) (t : TE) (d : PyData) : Prop := ∀ (H : Hp) (Q : VK), Same H0 H → (∀ (v : V) (H' : Hp), Same H H' → Dp K H' v d → Q v H') → t σ H Q
def AX (K : PySem.W.Frag) (σ : L2.St) (H0 : Hp) (t : TA) (ds : List PyData) : Prop := ∀ (H : Hp) (Q : List V → Hp → Prop), Same H0 H → (∀ (vs : List V) (H' : Hp), Same H H' → DpAll K H' vs ds → Q vs H') → t σ H Q
variable {t u : TE} {ta : TA} {d : PyData} {ds es : List PyData}
theorem dx_of (h : DE K t d) : DX K σ H0 t d := fun H Q _ q => h σ H Q q
theorem dx_var {i : Nat} {v : V} (e : σ[i]? = some (some v)) (h : Dp K H0 v d) : DX K σ H0 (tVar i) d := fun H Q s q => ⟨v, e, q v H (Same.refl H) (dKeep s h)⟩
theorem ax_nil : AX K σ H0 tNil [] := fun H _ _ q => q _ H (Same.refl H) .nil
theorem ax_cons (h : DX K σ H0 t d) (k : AX K σ H0 ta ds) : AX K σ H0 (tCons t ta) (d :: ds) := fun H Q s q => h H _ s fun v H1 s1 d1 => k H1 _ (s.trans s1) fun vs H2 s2 d2 => q _ H2 (s1.trans s2) (.cons (dKeep s2 d1) d2)
theorem dx_tup (h : AX K σ H0 ta ds) (few : ds.length ≤ 1000) : DX K σ H0 (tTup ta) (.tuple ds) := fun H Q s q => h H _ s fun vs H1 s1 d1 => by
  refine ⟨by rw [dsLen d1]; exact Nat.le_trans few (by decide), fun p np => ?_⟩
  have s2 := same_new (o := .tup vs) np
  exact q _ _ (s1.trans s2) (.tup (.inl (.inl upd_same)) (dsKeep s2 d1))
theorem dx_cat (h : DX K σ H0 t (.tuple ds)) (k : DX K σ H0 u (.tuple es)) (few : ds.length + es.length ≤ 1000) : DX K σ H0 (tOp (rCatA K) t u) (.tuple (ds ++ es)) := fun H Q s q =>
  h H _ s fun v H1 s1 d1 => k H1 _ (s.trans s1) fun v2 H2 s2 d2 => catA (dKeep s2 d1) d2 few fun r H3 s3 d3 => q r H3 ((s1.trans s2).trans s3) d3
theorem dx_tail (h : DX K σ H0 t (.tuple ds)) : DX K σ H0 (tSl (rSlA K) t (tPart (tC (.int 1))) tNoPart) (.tuple (ds.drop 1)) := fun H Q s q =>
  h H _ s fun v H1 s1 d1 => ⟨1, rfl, slA_drop (k := 1) d1 fun r H2 s2 d2 => q r H2 (s1.trans s2) d2⟩
theorem dx_front (h : DX K σ H0 t (.tuple ds)) (ne : 0 < ds.length) : DX K σ H0 (tSl (rSlA K) t tNoPart (tPart (tUn (rU fun i => .int (-i)) (tC (.int 1))))) (.tuple (ds.take (ds.length - 1))) := fun H Q s q =>
  h H _ s fun v H1 s1 d1 => ⟨1, rfl, -1, rfl, slA_any d1 fun r H2 s2 d2 => q r H2 (s1.trans s2) (by
    have e : HT.sIx ds.length ds.length (some (-1)) = ds.length - 1 := by
      show (if (-1 : Int) < 0 then ((-1 : Int) + (ds.length : Nat)).toNat else min (-1 : Int).toNat ds.length) = _
      rw [if_pos (by decide)]
      omega
    rw [e, HT.sIx_none, List.drop_zero, Nat.sub_zero] at d2
    exact d2)⟩
theorem dx_list (h : DX K σ H0 t (.tuple ds)) : DX K σ H0 (tCB (fun xs H Q => ∃ p ys, xs = [.ref p] ∧ (SqL K H p ys ∨ SqT K H p ys) ∧ ∀ l, H l = none → Q (.ref l) (upd H l (.lst ys))) (tCons t tNil)) (.list ds) := fun H Q s q =>
  h H _ s fun v H1 s1 d1 => by
    cases d1 with
    | tup ht hds =>
      rename_i a xs
      refine ⟨_, _, rfl, .inr ht, fun l nl => ?_⟩
      have s2 := same_new (o := .lst xs) nl
      exact q _ _ (s1.trans s2) (.lst (.inl (.inl upd_same)) (dsKeep s2 hds))
theorem dx_mul (h : DX K σ H0 t (.tuple ds)) (pos : 0 < ds.length) (few : ds.length ≤ 1000) :
    DX K σ H0 (tOp (rMulT K) (tTup (tCons (tC (.bl true)) tNil)) (tCB (fun xs H Q => ∃ p ys, xs = [.ref p] ∧ (SqL K H p ys ∨ SqT K H p ys) ∧ Q (.int ys.length) H) (tCons t tNil))) (.tuple (List.replicate ds.length (.bool true))) := fun H Q s q => by
  refine ⟨(show 1 ≤ sizeLine by decide), fun p np => ?_⟩
  have s1 := same_new (o := .tup [.bl true]) np
  refine h _ _ (s.trans s1) fun v H1 s2 d1 => ?_
  cases d1 with
  | tup ht hds =>
    rename_i a xs
    have lx := dsLen hds
    refine ⟨a, xs, rfl, .inr ht, p, (xs.length : Nat), [.bl true], rfl, rfl, .inl (.inl (s2 _ _ upd_same)), (fun z => by cases z), by omega, by omega, (show 1 ≤ 1000 by decide), fun k1 => ?_, fun p2 np2 => ?_⟩
    · have e : ds.length = 1 := by omega
      rw [e] at q
      exact q _ _ (s1.trans s2) (.tup (.inl (.inl (s2 _ _ upd_same))) (.cons (.bl true) .nil))
    · have s3 := same_new (o := .tup (List.replicate ((xs.length : Nat) : Int).toNat [V.bl true]).flatten) np2
      refine q _ _ ((s1.trans s2).trans s3) (.tup (.inl (.inl upd_same)) ?_)
      have rep : ∀ n : Nat, DpAll K (upd H1 p2 (.tup (List.replicate ((xs.length : Nat) : Int).toNat [V.bl true]).flatten)) (List.replicate n [V.bl true]).flatten (List.replicate n (.bool true)) := by
        intro n
        induction n with
        | zero => exact .nil
        | succ n ih => exact .cons (.bl true) ih
      have e : ((xs.length : Nat) : Int).toNat = ds.length := by omega
      rw [e] at rep ⊢
      exact rep _
theorem lx_lst (h : AX K σ H0 ta ds) (few : ds.length ≤ 1000) {H : Hp} {Q : VK} (s : Same H0 H) (q : ∀ (l : Addr) (vs : List V) (H' : Hp), Same H H' → H l = none → H' l = some (.lst vs) → DpAll K H' vs ds → Q (.ref l) H') : tLst ta σ H Q :=
  h H _ s fun vs H1 s1 d1 => by
    refine ⟨by rw [dsLen d1]; exact Nat.le_trans few (by decide), fun p np => ?_⟩
    have s2 := same_new (o := .lst vs) np
    exact q p vs _ (s1.trans s2) (s1.free np) upd_same (dsKeep s2 d1)
/-- a list, more items behind it; what it is made of stays as it was before the sum -/
theorem lx_grow {l : Addr} {vs : List V} {H : Hp} {Q : VK} (e : H l = some (.lst vs)) (d1 : DpAll K H vs ds) (hs : Same H0 H) (ht : ∀ R : VK, R (.ref l) H → t σ H R) (k : AX K σ H0 ta es) (few : ds.length + es.length ≤ 1000)
    (q : ∀ (p : Addr) (ws : List V) (G : Hp), Same H G → G p = none → DpAll K G ws (ds ++ es) → Q (.ref p) (upd G p (.lst ws))) : tOp rCat t (tLst ta) σ H Q := by
  refine ht _ (lx_lst k (Nat.le_trans (Nat.le_add_left _ _) few) hs fun r ws H2 s2 n2 e2 d2 => ?_)
  refine ⟨l, r, vs, ws, rfl, rfl, s2 _ _ e, e2, by rw [dsLen d1, dsLen d2]; exact Nat.le_trans few (by decide), fun p np => ?_⟩
  exact q p _ H2 s2 np (dsApp (dsKeep s2 d1) d2)
theorem dx_ix {v : V} {e : PyData} {i j : Nat} {ds : List PyData} (ev : σ[i]? = some (some v)) (h : Dp K H0 v (.tuple ds)) (at_ : ds[j]? = some e) : DX K σ H0 (tOp (rIxT K) (tVar i) (tC (.int (j : Nat)))) e := fun H Q s q => by
  cases dKeep s h with
  | tup ht hd =>
    rename_i a xs
    obtain ⟨x, hx⟩ : ∃ x, xs[j]? = some x := ⟨xs[j]'(by have := dsLen hd; have := (List.getElem?_eq_some_iff.mp at_).1; omega), List.getElem?_eq_getElem _⟩
    obtain ⟨e', he', dp⟩ := dsAt hd j x hx
    obtain rfl : e' = e := Option.some.inj (he'.symm.trans at_)
    exact ⟨.ref a, ev, a, xs, (j : Nat), x, rfl, rfl, ht, atI_nat hx, q x H (Same.refl H) dp⟩
theorem dx_rev (h : DX K σ H0 t (.tuple ds)) : DX K σ H0 (tRevT K t) (.tuple ds.reverse) := fun H Q s q => h H _ s fun v H1 s1 d1 => by
  cases d1 with
  | tup ht hd =>
    rename_i a xs
    refine ⟨a, xs, rfl, ht, fun p np => ?_⟩
    have s2 := same_new (o := .tup xs.reverse) np
    exact q _ _ (s1.trans s2) (.tup (.inl (.inl upd_same)) (dsKeep s2 (dsRev hd)))
theorem dx_take {i k : Nat} (h : DX K σ H0 t (.tuple ds)) (e : σ[i]? = some (some (.int (k : Nat)))) (hk : k ≤ ds.length) : DX K σ H0 (tSl (rSlA K) t tNoPart (tPart (tVar i))) (.tuple (ds.take k)) := fun H Q s q =>
  h H _ s fun v H1 s1 d1 => ⟨.int (k : Nat), e, (k : Nat), rfl, slA_take (k := k) d1 hk fun r H2 s2 d2 => q r H2 (s1.trans s2) d2⟩
theorem dx_take1 {i k : Nat} (h : DX K σ H0 t (.tuple ds)) (e : σ[i]? = some (some (.int (k : Nat)))) (hk : k + 1 ≤ ds.length) : DX K σ H0 (tSl (rSlA K) t tNoPart (tPart (tOp (rI0 fun i j => .int (i + j)) (tVar i) (tC (.int 1))))) (.tuple (ds.take (k + 1))) := fun H Q s q =>
  h H _ s fun v H1 s1 d1 => ⟨.int (k : Nat), e, (k : Nat), 1, rfl, rfl, ((k + 1 : Nat) : Int), rfl, slA_take (k := k + 1) d1 hk fun r H2 s2 d2 => q r H2 (s1.trans s2) d2⟩
theorem dx_drop {i k : Nat} (h : DX K σ H0 t (.tuple ds)) (e : σ[i]? = some (some (.int (k : Nat)))) : DX K σ H0 (tSl (rSlA K) t (tPart (tVar i)) tNoPart) (.tuple (ds.drop k)) := fun H Q s q =>
  h H _ s fun v H1 s1 d1 => ⟨.int (k : Nat), e, (k : Nat), rfl, slA_drop (k := k) d1 fun r H2 s2 d2 => q r H2 (s1.trans s2) d2⟩
theorem dx_drop1 {i k : Nat} (h : DX K σ H0 t (.tuple ds)) (e : σ[i]? = some (some (.int (k : Nat)))) : DX K σ H0 (tSl (rSlA K) t (tPart (tOp (rI0 fun i j => .int (i + j)) (tVar i) (tC (.int 1)))) tNoPart) (.tuple (ds.drop (k + 1))) := fun H Q s q =>
  h H _ s fun v H1 s1 d1 => ⟨.int (k : Nat), e, (k : Nat), 1, rfl, rfl, ((k + 1 : Nat) : Int), rfl, slA_drop (k := k + 1) d1 fun r H2 s2 d2 => q r H2 (s1.trans s2) d2⟩
theorem dx_not {i : Nat} {b : Bool} (e : σ[i]? = some (some (.bl b))) : DX K σ H0 (tNotV (tVar i)) (.bool (!b)) := fun H Q s q => ⟨_, e, b, rfl, q _ H (Same.refl H) (.bl _)⟩
end
end Kn


namespace Kn
open PySem PySem.Spec PyProof.Rows L2
/-! ### repr of any data -/
def rShowV (K : PySem.W.Frag) : List V → Hp → VK → Prop := fun xs H Q => ∃ (v : V) (d : PyData), xs = [v] ∧ Dp K H v d ∧ d.showable = true ∧ d.hasDict = false ∧ d.depth ≤ 20 ∧ d.shown.length ≤ sizeLine ∧ Q (.str d.shown) H
theorem call_showV {X : Cx} (hq : X.A.guards = some []) (hu : X.A.units + 64 < cLine) : CallR X (.builtin "repr") (rShowV X.K) := by
  rintro pins s σ H xs us Q I rv ⟨v, d, rfl, hd, h1, h2, h3, h4, q⟩
  cases hd with
  | non =>
    obtain ⟨u, rfl, rfl⟩ := vals1 rv
    exact PySem.P.repr_of_none ⟨.str _, H, I.tok _, ⟨_, rfl⟩, q⟩
  | bl b =>
    obtain ⟨u, rfl, rfl⟩ := vals1 rv
    refine PySem.P.repr_of_bool ⟨.str (PyData.bool b).shown, H, I.tok _, ⟨s.toks, ?_⟩, q⟩
    cases b <;> rfl
  | int i =>
    obtain ⟨u, rfl, t, rfl⟩ := vals1 rv
    exact PySem.P.repr_of_int (of_decide_eq_true h1) ⟨.str _, H, I.tok _, ⟨_, rfl⟩, q⟩
  | str x =>
    obtain ⟨u, rfl, t, rfl⟩ := vals1 rv
    exact PySem.P.repr_of_str ⟨.str _, H, I.tok _, ⟨_, rfl⟩, q⟩ h4
  | lst a b => exact call_show hq hu pins s σ H _ us Q I rv ⟨_, _, rfl, .lst a b, h1, h2, h3, h4, q⟩
  | tup a b => exact call_show hq hu pins s σ H _ us Q I rv ⟨_, _, rfl, .tup a b, h1, h2, h3, h4, q⟩
end Kn


namespace Kn
open PySem PySem.Spec PyProof.Rows L2
abbrev nRt : List Str := ["_law_item", "_law_kept", "_law_told", "_law_due"]
theorem scRt : FnScope nRt ["_law_item"] (defScope (topS 33)) := ⟨rfl, rfl, rfl, by decide +kernel, rfl, by decide +kernel, by decide +kernel⟩
structure Fine (d : PyData) : Prop where
  g : goodD d = true
  dp : d.depth ≤ 15
  n : nodesD d ≤ 1000
theorem Fine.nice {d : PyData} (h : Fine d) : Nice d := ⟨h.g, Nat.le_trans h.dp (by decide), h.n⟩
theorem sh_fine {d : PyData} (h : Fine d) : Sh 15 80000 d := by
  obtain ⟨a, b, c⟩ := good_shown d h.g
  exact ⟨a, b, h.dp, by have := h.n; omega⟩
section
variable {K : PySem.W.Frag} {σ : L2.St} {H0 : Hp}
theorem dx_G {f : PyData → Bool} {i : Nat} {v : V} {d : PyData} (e : σ[i]? = some (some v)) (h : Dp K H0 v d) (n : Nice d) : DX K σ H0 (tCall (spG K f) [] E0 (tCons (tVar i) tNil)) (.bool (f d)) := fun H Q s q =>
  ⟨v, e, v, d, rfl, dKeep s h, n, fun H' s' => q _ H' s' (.bl _)⟩
theorem dx_B {f : PyData → Bool} {i : Nat} {v : V} {d : PyData} (e : σ[i]? = some (some v)) (h : Dp K H0 v d) : DX K σ H0 (tCall (spB K f) [] E0 (tCons (tVar i) tNil)) (.bool (f d)) := fun H Q s q =>
  ⟨v, e, v, d, rfl, dKeep s h, q _ H (Same.refl H) (.bl _)⟩
theorem dx_F {i : Nat} {v : V} {d : PyData} (e : σ[i]? = some (some v)) (h : Dp K H0 v d) (n : Nice d) : DX K σ H0 (tOp (fun x y H Q => y = .non ∧ Q (.bl (decide (x = .non))) H) (tCall (spFt K) [] E0 (tCons (tVar i) tNil)) (tC .non)) (.bool (faultOf d).isNone) := fun H Q s q =>
  ⟨v, e, v, d, rfl, dKeep s h, n, fun r H' s' hr => ⟨rfl, q _ H' s' (by
    have e : decide (r = .non) = (faultOf d).isNone := by
      cases z : faultOf d with
      | none =>
        rw [z] at hr
        exact decide_eq_true hr
      | some wt =>
        obtain ⟨wd, t⟩ := wt
        rw [z] at hr
        obtain ⟨p, rfl, _⟩ := hr
        rfl
    rw [e]
    exact .bl _)⟩⟩
theorem dx_whole {i : Nat} {v : V} {d : PyData} (e : σ[i]? = some (some v)) (h : Dp K H0 v d) : DX K σ H0 (tAndV (tCall (spB K intB) [] E0 (tCons (tVar i) tNil)) (tOp (fun x y H Q => ∃ i j, x = .int i ∧ y = .int j ∧ Q (.bl (decide (i ≥ j))) H) (tVar i) (tC (.int 0)))) (.bool (natB d)) := fun H Q s q => by
  refine ⟨v, e, v, d, rfl, dKeep s h, _, rfl, ?_⟩
  have q := fun z => q (.bl (natB d)) H (Same.refl H) z
  cases h with
  | int n => exact iteT ⟨_, e, n, 0, rfl, rfl, q (.bl _)⟩
  | non => exact iteF (q (.bl _))
  | bl b => exact iteF (q (.bl _))
  | str x => exact iteF (q (.bl _))
  | lst a b => exact iteF (q (.bl _))
  | tup a b => exact iteF (q (.bl _))
end
def told1 (d : PyData) : List PyData := [.bool (intB d), .bool (natB d), .bool (nameB d), .bool (rowB d), .bool (kindB d), .bool (faultOf d).isNone]
def told2 (d : PyData) : List PyData := [.bool (storeB d), .bool (letterB d), .bool (eventB d)]
def spRt (K : PySem.W.Frag) : Sp := fun vs H Q _ => ∃ (v : V) (d : PyData), vs = [v] ∧ Dp K H v d ∧ Fine d ∧ ∀ H', Same H H' → Q (.bl true) H'
theorem sh_told (d : PyData) : Sh 20 16777216 (.list (told1 d ++ told2 d)) := by
  refine (sh_list (k := 0) (B := 5) (n := 9) ?_ (by simp [told1, told2])).mono (by decide) (by decide)
  intro x hx
  simp only [told1, told2, List.mem_append, List.mem_cons, List.not_mem_nil, or_false] at hx
  rcases hx with (rfl | rfl | rfl | rfl | rfl | rfl) | (rfl | rfl | rfl) <;> exact sh_bool _
section
variable {P : Program} {w : World} {K : PySem.W.Frag} {mg : Str → Option Value} {base : Heap}
theorem ok_rt {f g1 g2 g3 g4 g5 g6 g7 g8 g9 h1 h2 h3 h4 h5 h6 h7 h8 : Addr} {fd e1 e2 e3 e4 e5 e6 e7 e8 e9 k1 k2 k3 k4 k5 k6 k7 k8 : FuncData} (F : Fun K "_law_is_right" "_law_is_right" (topS 33) f fd)
    (A1 : Def K mg "is_integer" 3 ["thing"] g1 e1) (O1 : FnOk P w K mg base CX0 1 g1 e1 ["thing"] (spB K intB))
    (A2 : Def K mg "is_number" 4 ["thing"] g2 e2) (O2 : FnOk P w K mg base CX0 2 g2 e2 ["thing"] (spB K natB))
    (A3 : Def K mg "is_name" 6 ["thing"] g3 e3) (O3 : FnOk P w K mg base CX0 1 g3 e3 ["thing"] (spG K nameB))
    (A4 : Def K mg "is_table" 7 ["thing"] g4 e4) (O4 : FnOk P w K mg base CX0 2 g4 e4 ["thing"] (spG K rowB))
    (A5 : Def K mg "is_kind" 8 ["thing"] g5 e5) (O5 : FnOk P w K mg base CX0 3 g5 e5 ["thing"] (spG K kindB))
    (A6 : Def K mg "is_web" 12 ["thing"] g6 e6) (O6 : FnOk P w K mg base CX0 5 g6 e6 ["thing"] (spG K fun d => (faultOf d).isNone))
    (A7 : Def K mg "is_store" 13 ["thing"] g7 e7) (O7 : FnOk P w K mg base CX0 3 g7 e7 ["thing"] (spG K storeB))
    (A8 : Def K mg "is_letter" 14 ["thing"] g8 e8) (O8 : FnOk P w K mg base CX0 4 g8 e8 ["thing"] (spG K letterB))
    (A9 : Def K mg "is_event" 16 ["thing"] g9 e9) (O9 : FnOk P w K mg base CX0 5 g9 e9 ["thing"] (spG K eventB))
    (B1 : Def K mg "_law_is_whole" 25 ["_law_item"] h1 k1) (P1 : FnOk P w K mg base CX0 1 h1 k1 ["_law_item"] (spB K intB))
    (B2 : Def K mg "_law_is_label" 26 ["_law_item"] h2 k2) (P2 : FnOk P w K mg base CX0 1 h2 k2 ["_law_item"] (spG K nameB))
    (B3 : Def K mg "_law_is_row" 27 ["_law_item"] h3 k3) (P3 : FnOk P w K mg base CX0 2 h3 k3 ["_law_item"] (spG K rowB))
    (B4 : Def K mg "_law_is_entry" 28 ["_law_item"] h4 k4) (P4 : FnOk P w K mg base CX0 3 h4 k4 ["_law_item"] (spG K kindB))
    (B5 : Def K mg "_law_fault" 29 ["_law_item"] h5 k5) (P5 : FnOk P w K mg base CX0 4 h5 k5 ["_law_item"] (spFt K))
    (B6 : Def K mg "_law_is_store" 30 ["_law_item"] h6 k6) (P6 : FnOk P w K mg base CX0 2 h6 k6 ["_law_item"] (spG K storeB))
    (B7 : Def K mg "_law_is_letter" 31 ["_law_item"] h7 k7) (P7 : FnOk P w K mg base CX0 3 h7 k7 ["_law_item"] (spG K letterB))
    (B8 : Def K mg "_law_is_event" 32 ["_law_item"] h8 k8) (P8 : FnOk P w K mg base CX0 3 h8 k8 ["_law_item"] (spG K eventB)) (mp : mg "repr" = none) :
    Vow P w K mg base 6 f fd ["_law_item"] (spRt K) := by
  refine Vow.body F scRt (fun vs H Q E h => ?_) (fun cdv A outer s H vs Q E hq hr h => ?_)
  · obtain ⟨v, d, rfl, _⟩ := h
    rfl
  · obtain ⟨v, d, rfl, hd, fine, q⟩ := h
    have ni := fine.nice
    have hr1 : Room 1 _ := hr.mono (by decide)
    have hr2 : Room 2 _ := hr.mono (by decide)
    have hr3 : Room 3 _ := hr.mono (by decide)
    have hr4 : Room 4 _ := hr.mono (by decide)
    have hr5 : Room 5 _ := hr.mono (by decide)
    refine ⟨_, pss_cons (ps_set (i := 1) scRt.nd rfl (.inl rfl) (pe_callB (call_showV hq hr.units) (by rfl) mp boot_repr (pa_cons (pv 0) pa_nil)))
      (pss_cons (ps_set (i := 2) scRt.nd rfl (.inl rfl) (pe_lst (pa_cons (pe_call O1 hr1 (by rfl) A1.m A1.F.kp A1.b .nil pass0 (pa_cons (pv 0) pa_nil)) (pa_cons (pe_call O2 hr2 (by rfl) A2.m A2.F.kp A2.b .nil pass0 (pa_cons (pv 0) pa_nil)) (pa_cons (pe_call O3 hr1 (by rfl) A3.m A3.F.kp A3.b .nil pass0 (pa_cons (pv 0) pa_nil)) (pa_cons (pe_call O4 hr2 (by rfl) A4.m A4.F.kp A4.b .nil pass0 (pa_cons (pv 0) pa_nil)) (pa_cons (pe_call O5 hr3 (by rfl) A5.m A5.F.kp A5.b .nil pass0 (pa_cons (pv 0) pa_nil)) (pa_cons (pe_call O6 hr5 (by rfl) A6.m A6.F.kp A6.b .nil pass0 (pa_cons (pv 0) pa_nil)) pa_nil))))))))
      (pss_cons (ps_set (i := 2) scRt.nd rfl (.inl rfl) (pe_op op_cat (pv 2) (pe_lst (pa_cons (pe_call O7 hr3 (by rfl) A7.m A7.F.kp A7.b .nil pass0 (pa_cons (pv 0) pa_nil)) (pa_cons (pe_call O8 hr4 (by rfl) A8.m A8.F.kp A8.b .nil pass0 (pa_cons (pv 0) pa_nil)) (pa_cons (pe_call O9 hr5 (by rfl) A9.m A9.F.kp A9.b .nil pass0 (pa_cons (pv 0) pa_nil)) pa_nil))))))
      (pss_cons (ps_set (i := 3) scRt.nd rfl (.inl rfl) (pe_lst (pa_cons (pe_call P1 hr1 (by rfl) B1.m B1.F.kp B1.b .nil pass0 (pa_cons (pv 0) pa_nil)) (pa_cons (pe_and (pe_call P1 hr1 (by rfl) B1.m B1.F.kp B1.b .nil pass0 (pa_cons (pv 0) pa_nil)) (pe_one (pe_cmpR op_ge (pv 0) pe_int (nomark _)))) (pa_cons (pe_call P2 hr1 (by rfl) B2.m B2.F.kp B2.b .nil pass0 (pa_cons (pv 0) pa_nil)) (pa_cons (pe_call P3 hr2 (by rfl) B3.m B3.F.kp B3.b .nil pass0 (pa_cons (pv 0) pa_nil)) pa_nil))))))
      (pss_cons (ps_set (i := 3) scRt.nd rfl (.inl rfl) (pe_op op_cat (pv 3) (pe_lst (pa_cons (pe_call P4 hr3 (by rfl) B4.m B4.F.kp B4.b .nil pass0 (pa_cons (pv 0) pa_nil)) (pa_cons (pe_cmpR op_isN (pe_call P5 hr4 (by rfl) B5.m B5.F.kp B5.b .nil pass0 (pa_cons (pv 0) pa_nil)) pe_non (nomark _)) (pa_cons (pe_call P6 hr2 (by rfl) B6.m B6.F.kp B6.b .nil pass0 (pa_cons (pv 0) pa_nil)) (pa_cons (pe_call P7 hr3 (by rfl) B7.m B7.F.kp B7.b .nil pass0 (pa_cons (pv 0) pa_nil)) pa_nil)))))))
      (pss_one (ps_ret (pe_and (pe_cmpR op_eq (pe_callB (call_show hq hr.units) (by rfl) mp boot_repr (pa_cons (pv 2) pa_nil)) (pe_callB (call_show hq hr.units) (by rfl) mp boot_repr (pa_cons (pe_op op_cat (pv 3) (pe_lst (pa_cons (pe_call P8 hr3 (by rfl) B8.m B8.F.kp B8.b .nil pass0 (pa_cons (pv 0) pa_nil)) pa_nil))) pa_nil)) (nomark _))
        (pe_one (pe_cmpR op_eq (pe_callB (call_showV hq hr.units) (by rfl) mp boot_repr (pa_cons (pv 0) pa_nil)) (pv 1) (nomark _)))))))))), ?_⟩
    have shf := sh_fine fine
    have sht := sh_told d
    refine ⟨v, rfl, v, d, rfl, hd, shf.ok, shf.nd, Nat.le_trans shf.dp (by decide), Nat.le_trans shf.ln (by decide), ?_⟩
    refine seq_asg (lx_lst (K := K) (H0 := H) (ds := told1 d) (ax_cons (dx_B rfl hd) (ax_cons (dx_B rfl hd) (ax_cons (dx_G rfl hd ni) (ax_cons (dx_G rfl hd ni) (ax_cons (dx_G rfl hd ni) (ax_cons (dx_G (f := fun d => (faultOf d).isNone) rfl hd ni) ax_nil)))))) (show 6 ≤ 1000 by decide) (Same.refl _) fun l0 vs0 G0 s0 n0 e0 d0 => ?_)
    dsimp only [gName]
    refine seq_asg (lx_grow (K := K) (H0 := H) (ds := told1 d) (es := told2 d) e0 d0 s0 (fun R r => ⟨_, rfl, r⟩) (ax_cons (dx_G rfl hd ni) (ax_cons (dx_G rfl hd ni) (ax_cons (dx_G rfl hd ni) ax_nil))) (show 6 + 3 ≤ 1000 by decide) fun l1 ws1 G1 t1 n1 dd1 => ?_)
    dsimp only [gName]
    have sn1 := same_new (o := .lst ws1) n1
    have S1 := s0.trans (t1.trans sn1)
    have f1 : (upd G1 l1 (.lst ws1)) l1 = some (.lst ws1) := upd_same
    have dd1' := dsKeep sn1 dd1
    generalize upd G1 l1 (.lst ws1) = J1 at S1 f1 dd1' ⊢
    refine seq_asg (lx_lst (K := K) (H0 := H) (ds := [.bool (intB d), .bool (natB d), .bool (nameB d), .bool (rowB d)]) (ax_cons (dx_B rfl hd) (ax_cons (dx_whole rfl hd) (ax_cons (dx_G rfl hd ni) (ax_cons (dx_G rfl hd ni) ax_nil)))) (show 4 ≤ 1000 by decide) S1 fun l2 vs2 G2 s2 n2 e2 d2 => ?_)
    dsimp only [gName]
    refine seq_asg (lx_grow (K := K) (H0 := H) (es := [.bool (kindB d), .bool (faultOf d).isNone, .bool (storeB d), .bool (letterB d)]) e2 d2 (S1.trans s2) (fun R r => ⟨_, rfl, r⟩) (ax_cons (dx_G rfl hd ni) (ax_cons (dx_F rfl hd ni) (ax_cons (dx_G rfl hd ni) (ax_cons (dx_G rfl hd ni) ax_nil)))) (show 4 + 4 ≤ 1000 by decide) fun l3 ws3 G3 t3 n3 dd3 => ?_)
    dsimp only [gName]
    have sn3 := same_new (o := .lst ws3) n3
    have S3 := s2.trans (t3.trans sn3)
    have f3 : (upd G3 l3 (.lst ws3)) l3 = some (.lst ws3) := upd_same
    have dd3' := dsKeep sn3 dd3
    generalize upd G3 l3 (.lst ws3) = J3 at S3 f3 dd3' ⊢
    have S13 := S1.trans S3
    refine ⟨.ref l1, rfl, l1, .list (told1 d ++ told2 d), rfl, .lst (.inl (.inl (S3 _ _ f1))) (dsKeep S3 dd1'), sht.ok, sht.nd, sht.dp, Nat.le_trans sht.ln size16, ?_⟩
    refine lx_grow (K := K) (H0 := H) (es := [.bool (eventB d)]) f3 dd3' S13 (fun R r => ⟨_, rfl, r⟩) (ax_cons (dx_G rfl hd ni) ax_nil) (show 8 + 1 ≤ 1000 by decide) fun l4 ws4 G4 t4 n4 dd4 => ?_
    have sn4 := same_new (o := .lst ws4) n4
    have S4 := S13.trans (t4.trans sn4)
    refine ⟨l4, .list (told1 d ++ told2 d), rfl, .lst (.inl (.inl upd_same)) (dsKeep sn4 dd4), sht.ok, sht.nd, sht.dp, Nat.le_trans sht.ln size16, rfl, true, by rw [decide_eq_true rfl], iteT ?_⟩
    refine ⟨v, rfl, v, d, rfl, dKeep S4 hd, shf.ok, shf.nd, Nat.le_trans shf.dp (by decide), Nat.le_trans shf.ln (by decide), _, rfl, rfl, ?_⟩
    rw [decide_eq_true rfl]
    exact q _ S4
end
end Kn


/-! Kn: written lists that grow: what they are made of stands without them. -/
namespace Kn
open PySem PySem.Spec PyProof.Rows L2
section
variable {K : PySem.W.Frag} {t : TE} {ta : TA} {ds es : List PyData} {σ : L2.St} {Q : VK}
theorem dl_new (h : DA K ta ds) (few : ds.length ≤ 1000) (σ : L2.St) (H : Hp) (Q : VK) (q : ∀ (l : Addr) (vs : List V) (G : Hp), Same H G → G l = none → DpAll K G vs ds → Q (.ref l) (upd G l (.lst vs))) : tLst ta σ H Q :=
  h σ H _ fun vs H1 s1 d1 => ⟨by rw [dsLen d1]; exact Nat.le_trans few (by decide), fun p np => q p vs H1 s1 np d1⟩
theorem dl_more {l : Addr} {vs : List V} {G : Hp} (n : G l = none) (d : DpAll K G vs ds) (ht : ∀ R : VK, R (.ref l) (upd G l (.lst vs)) → t σ (upd G l (.lst vs)) R) (k : DA K ta es) (few : ds.length + es.length ≤ 1000)
    (q : ∀ (p : Addr) (ws : List V) (G' : Hp), Same G G' → G' p = none → DpAll K G' ws (ds ++ es) → Q (.ref p) (upd G' p (.lst ws))) : tOp rCat t (tLst ta) σ (upd G l (.lst vs)) Q :=
  ht _ (k σ _ _ fun ws H2 s2 d2 => ⟨by rw [dsLen d2]; exact Nat.le_trans (Nat.le_trans (Nat.le_add_left _ _) few) (by decide), fun r nr => by
    have s3 := same_new (o := .lst ws) nr
    have s0 := same_new (o := .lst vs) n
    refine ⟨l, r, vs, ws, rfl, rfl, s3 _ _ (s2 _ _ upd_same), upd_same, by rw [dsLen d, dsLen d2]; exact Nat.le_trans few (by decide), fun p np => ?_⟩
    exact q p _ _ ((s0.trans s2).trans s3) np (dsApp (dsKeep ((s0.trans s2).trans s3) d) (dsKeep s3 d2))⟩)
theorem swap3 {G : Hp} {l t : Addr} {a b c : HO} (ne : l ≠ t) : upd (upd (upd G l a) t b) l c = upd (upd G t b) l c := by
  funext x
  by_cases h : x = l
  · subst h
    rw [upd_same, upd_same]
  · rw [upd_ne h, upd_ne h]
    by_cases k : x = t
    · subst k
      rw [upd_same, upd_same]
    · rw [upd_ne k, upd_ne k, upd_ne h]
end
end Kn


namespace Kn
open PySem PySem.Spec PyProof.Rows L2
abbrev nEd : List Str := ["_law_some"]
theorem scEd : FnScope nEd [] (defScope (topS 34)) := ⟨rfl, rfl, rfl, by decide +kernel, rfl, by decide +kernel, by decide +kernel⟩
theorem de_negbig {K : PySem.W.Frag} {i j : Int} (h : CPow i j := by exact ⟨by decide, by decide, by decide⟩) : DE K (tUn (rU fun i => .int (-i)) (tOp (rI CPow fun i j => .int (i ^ j.toNat)) (tC (.int i)) (tC (.int j)))) (.int (-(i ^ j.toNat))) := fun _ H _ q => ⟨i, j, rfl, rfl, h, _, rfl, q _ H (Same.refl H) (.int _)⟩
theorem de_twice {K : PySem.W.Frag} {t : TE} {d : PyData} (h : DE K t d) : DE K (tOp (rMulT K) (tTup (tCons t tNil)) (tC (.int 2))) (.tuple [d, d]) := fun σ H Q q => h σ H _ fun v H1 s1 d1 => by
  refine ⟨(show 1 ≤ sizeLine by decide), fun p np => ?_⟩
  have s2 := same_new (o := .tup [v]) np
  refine ⟨p, 2, [v], rfl, rfl, .inl (.inl upd_same), (fun z => by cases z), by decide, by decide, (show 1 ≤ 1000 by decide), fun z => absurd z (by decide), fun p2 np2 => ?_⟩
  have s3 := same_new (o := .tup (List.replicate (2 : Int).toNat [v]).flatten) np2
  exact q _ _ ((s1.trans s2).trans s3) (.tup (.inl (.inl upd_same)) (.cons (dKeep (s2.trans s3) d1) (.cons (dKeep (s2.trans s3) d1) .nil)))
abbrev ed0 : List PyData := [.none, .bool true, .bool false, .int 0, .int 1, .int (-1), .int (10 ^ (59 : Int).toNat), .int (-(10 ^ (59 : Int).toNat)), .str "", .str "a", .str "abcdefgh", .str "abcdefghi", .str "z", .str "aZ", .str "a1", .str "a b"]
abbrev ed1 : List PyData := [.str "1", .str "\n", .str "a\n", .tuple [], .list [], .tuple [.none], .tuple [.str ""], .tuple [.str "b", .str "a"], .tuple [.str "a", .str "a"], .tuple [.str "a", .str "b"], .list [.str "a", .str "b"], .tuple [.str "a", .int 0]]
abbrev ed2 : List PyData := [.tuple [.str "a", .bool true], .tuple [.str "a", .int (-1)], .tuple [.int 0, .str "a"], .tuple [.str "a", .int 0, .int 0], .tuple [.tuple [.str "a", .int 0]], .tuple [.tuple [.str "a", .int 0], .tuple [.str "a", .int 0]]]
abbrev ed3 : List PyData := [.list [.tuple [.str "a", .int 0], .tuple [.str "a", .int 0]], .tuple [.list [.str "a", .int 0], .tuple [.str "a", .int 0]], .tuple [.tuple [.str "a", .int 0], .tuple [.str "a", .int 0], .tuple [.str "a", .int 0]]]
abbrev ed4 : List PyData := [.tuple [.str "came", .tuple [.str "a", .int 0], .tuple [.str "b", .int 2]], .tuple [.str "came", .tuple [.tuple [.str "a", .int 0], .tuple [.str "b", .int 2]]], .tuple [.str "came", .tuple [.str "a", .int 0], .tuple [.str "b", .bool true]]]
abbrev ed5 : List PyData := [.tuple [.str "came", .list [.str "a", .int 0], .tuple [.str "b", .int 2]], .tuple [.str "came", .tuple [.str "a", .int 0], .tuple [.str "b", .int 2], .int 0], .tuple [.str "came"], .tuple [.str "guard", .str "on"]]
abbrev ed6 : List PyData := [.tuple [.str "guard"], .tuple [.str "guard", .str "off"], .tuple [.str "guard", .str "On"], .tuple [.str "guard", .str "note"], .tuple [.str "guard", .bool true]]
abbrev ed7 : List PyData := [.tuple [.str "guard", .str "on", .str "off"]]
abbrev ed8 : List PyData := [.tuple [.str "note", .str "on"], .tuple [.str "note", .str ""], .tuple [.str "note", .tuple [.str "a"]], .list [.str "note", .str "a"], .tuple [.str "notes", .str "a"], .tuple [.tuple [.str "note"], .str "a"]]
abbrev ed9 : List PyData := [.tuple [.tuple [], .str "a"], .tuple [.tuple [], .none], .tuple [.str "a", .int 1, .bool false, .tuple []], .tuple [.str "a", .int 0, .bool false, .tuple []], .tuple [.str "a", .bool true, .bool false, .tuple []]]
abbrev ed10 : List PyData := [.tuple [.str "a", .int 1, .int 0, .tuple []], .tuple [.str "a", .int 1, .none, .tuple []], .tuple [.str "a", .int 1, .bool true, .list [.str "a"]], .tuple [.str "a", .int 1, .bool true, .tuple [.str "b", .str "a"]]]
abbrev ed11 : List PyData := [.tuple [.str "a", .int 1, .bool true], .tuple [.str "a", .int 1, .bool true, .tuple [], .tuple []], .tuple [.str "a", .int 1, .bool true, .tuple [.str "a", .str "a"]], .tuple [.str "a", .int (10 ^ (59 : Int).toNat), .bool true, .tuple [.str "zz"]]]
abbrev ed12 : List PyData := [.tuple [.tuple [.tuple [.str "a", .int 1, .bool true, .tuple []]], .str "a"], .tuple [.tuple [.tuple [.str "a", .int 1, .bool false, .tuple [.str "a"]]], .str "a"], .tuple [.tuple [.tuple [.str "a", .int 1, .bool false, .tuple [.str "b"]]], .str "a"]]
abbrev ed13 : List PyData := [.tuple [.tuple [.tuple [.str "a", .int 1, .bool false, .tuple []]], .tuple [.str "a"]], .tuple [.list [.tuple [.str "a", .int 1, .bool false, .tuple []]], .str "a"], .tuple [.tuple [.tuple [.str "a", .int 1, .bool false, .tuple []], .tuple [.str "a", .int 1, .bool false, .tuple []]], .str "a"]]
def edgesD : List PyData := (((((((((((((ed0 ++ ed1) ++ ed2) ++ ed3) ++ ed4) ++ ed5) ++ ed6) ++ ed7) ++ ed8) ++ ed9) ++ ed10) ++ ed11) ++ ed12) ++ ed13)
theorem edges_fine : ∀ d ∈ edgesD, Fine d := by
  have all : (edgesD.all fun d => goodD d && decide (d.depth ≤ 15) && decide (nodesD d ≤ 1000)) = true := by decide +kernel
  intro d hd
  have z := List.all_eq_true.mp all d hd
  obtain ⟨z1, z3⟩ := Bool.and_eq_true_iff.mp z
  obtain ⟨z1, z2⟩ := Bool.and_eq_true_iff.mp z1
  exact ⟨z1, of_decide_eq_true z2, of_decide_eq_true z3⟩
def spEd (K : PySem.W.Frag) : Sp := fun vs H Q _ => vs = [] ∧ ∀ (l : Addr) (ws : List V) (G : Hp), Same H G → G l = none → DpAll K G ws edgesD → Q (.ref l) (upd G l (.lst ws))
section
variable {P : Program} {w : World} {K : PySem.W.Frag} {mg : Str → Option Value} {base : Heap}
theorem ok_ed {f : Addr} {fd : FuncData} (F : Fun K "_law_edges" "_law_edges" (topS 34) f fd) : FnOk P w K mg base CX0 1 f fd [] (spEd K) := by
  refine F.ok scEd (fun vs H Q E h => ?_) (fun cdv A outer s H vs Q E hr h => ?_)
  · obtain ⟨rfl, _⟩ := h
    rfl
  · obtain ⟨rfl, q⟩ := h
    refine ⟨_, (pss_cons (ps_set (i := 0) scEd.nd rfl (.inl rfl) (pe_lst (pa_cons pe_non (pa_cons pe_bl (pa_cons pe_bl (pa_cons pe_int (pa_cons pe_int (pa_cons (pe_un un_neg pe_int) (pa_cons (pe_op op_pow pe_int pe_int) (pa_cons (pe_un un_neg (pe_op op_pow pe_int pe_int)) (pa_cons pe_str (pa_cons pe_str (pa_cons pe_str (pa_cons pe_str (pa_cons pe_str (pa_cons pe_str (pa_cons pe_str (pa_cons pe_str pa_nil))))))))))))))))))
      (pss_cons (ps_set (i := 0) scEd.nd rfl (.inl rfl) (pe_op op_cat (pv 0) (pe_lst (pa_cons pe_str (pa_cons pe_str (pa_cons pe_str (pa_cons (pe_tup pa_nil) (pa_cons (pe_lst pa_nil) (pa_cons (pe_tup (pa_cons pe_non pa_nil)) (pa_cons (pe_tup (pa_cons pe_str pa_nil)) (pa_cons (pe_tup (pa_cons pe_str (pa_cons pe_str pa_nil))) (pa_cons (pe_tup (pa_cons pe_str (pa_cons pe_str pa_nil))) (pa_cons (pe_tup (pa_cons pe_str (pa_cons pe_str pa_nil))) (pa_cons (pe_lst (pa_cons pe_str (pa_cons pe_str pa_nil))) (pa_cons (pe_tup (pa_cons pe_str (pa_cons pe_int pa_nil))) pa_nil)))))))))))))))
      (pss_cons (ps_set (i := 0) scEd.nd rfl (.inl rfl) (pe_op op_cat (pv 0) (pe_lst (pa_cons (pe_tup (pa_cons pe_str (pa_cons pe_bl pa_nil))) (pa_cons (pe_tup (pa_cons pe_str (pa_cons (pe_un un_neg pe_int) pa_nil))) (pa_cons (pe_tup (pa_cons pe_int (pa_cons pe_str pa_nil))) (pa_cons (pe_tup (pa_cons pe_str (pa_cons pe_int (pa_cons pe_int pa_nil)))) (pa_cons (pe_tup (pa_cons (pe_tup (pa_cons pe_str (pa_cons pe_int pa_nil))) pa_nil)) (pa_cons (pe_tup (pa_cons (pe_tup (pa_cons pe_str (pa_cons pe_int pa_nil))) (pa_cons (pe_tup (pa_cons pe_str (pa_cons pe_int pa_nil))) pa_nil))) pa_nil)))))))))
      (pss_cons (ps_set (i := 0) scEd.nd rfl (.inl rfl) (pe_op op_cat (pv 0) (pe_lst (pa_cons (pe_lst (pa_cons (pe_tup (pa_cons pe_str (pa_cons pe_int pa_nil))) (pa_cons (pe_tup (pa_cons pe_str (pa_cons pe_int pa_nil))) pa_nil))) (pa_cons (pe_tup (pa_cons (pe_lst (pa_cons pe_str (pa_cons pe_int pa_nil))) (pa_cons (pe_tup (pa_cons pe_str (pa_cons pe_int pa_nil))) pa_nil))) (pa_cons (pe_tup (pa_cons (pe_tup (pa_cons pe_str (pa_cons pe_int pa_nil))) (pa_cons (pe_tup (pa_cons pe_str (pa_cons pe_int pa_nil))) (pa_cons (pe_tup (pa_cons pe_str (pa_cons pe_int pa_nil))) pa_nil)))) pa_nil))))))
      (pss_cons (ps_set (i := 0) scEd.nd rfl (.inl rfl) (pe_op op_cat (pv 0) (pe_lst (pa_cons (pe_tup (pa_cons pe_str (pa_cons (pe_tup (pa_cons pe_str (pa_cons pe_int pa_nil))) (pa_cons (pe_tup (pa_cons pe_str (pa_cons pe_int pa_nil))) pa_nil)))) (pa_cons (pe_tup (pa_cons pe_str (pa_cons (pe_tup (pa_cons (pe_tup (pa_cons pe_str (pa_cons pe_int pa_nil))) (pa_cons (pe_tup (pa_cons pe_str (pa_cons pe_int pa_nil))) pa_nil))) pa_nil))) (pa_cons (pe_tup (pa_cons pe_str (pa_cons (pe_tup (pa_cons pe_str (pa_cons pe_int pa_nil))) (pa_cons (pe_tup (pa_cons pe_str (pa_cons pe_bl pa_nil))) pa_nil)))) pa_nil))))))
      (pss_cons (ps_set (i := 0) scEd.nd rfl (.inl rfl) (pe_op op_cat (pv 0) (pe_lst (pa_cons (pe_tup (pa_cons pe_str (pa_cons (pe_lst (pa_cons pe_str (pa_cons pe_int pa_nil))) (pa_cons (pe_tup (pa_cons pe_str (pa_cons pe_int pa_nil))) pa_nil)))) (pa_cons (pe_tup (pa_cons pe_str (pa_cons (pe_tup (pa_cons pe_str (pa_cons pe_int pa_nil))) (pa_cons (pe_tup (pa_cons pe_str (pa_cons pe_int pa_nil))) (pa_cons pe_int pa_nil))))) (pa_cons (pe_tup (pa_cons pe_str pa_nil)) (pa_cons (pe_tup (pa_cons pe_str (pa_cons pe_str pa_nil))) pa_nil)))))))
      (pss_cons (ps_set (i := 0) scEd.nd rfl (.inl rfl) (pe_op op_cat (pv 0) (pe_lst (pa_cons (pe_tup (pa_cons pe_str pa_nil)) (pa_cons (pe_tup (pa_cons pe_str (pa_cons pe_str pa_nil))) (pa_cons (pe_tup (pa_cons pe_str (pa_cons pe_str pa_nil))) (pa_cons (pe_tup (pa_cons pe_str (pa_cons pe_str pa_nil))) (pa_cons (pe_tup (pa_cons pe_str (pa_cons pe_bl pa_nil))) pa_nil))))))))
      (pss_cons (ps_expr (pe_bm PySem.F.plainAttrs_list PySem.F.slot_list_append PySem.F.type_list_append mt_append (pv 0) (pa_cons (pe_tup (pa_cons pe_str (pa_cons pe_str (pa_cons pe_str pa_nil)))) pa_nil)))
      (pss_cons (ps_set (i := 0) scEd.nd rfl (.inl rfl) (pe_op op_cat (pv 0) (pe_lst (pa_cons (pe_tup (pa_cons pe_str (pa_cons pe_str pa_nil))) (pa_cons (pe_tup (pa_cons pe_str (pa_cons pe_str pa_nil))) (pa_cons (pe_tup (pa_cons pe_str (pa_cons (pe_tup (pa_cons pe_str pa_nil)) pa_nil))) (pa_cons (pe_lst (pa_cons pe_str (pa_cons pe_str pa_nil))) (pa_cons (pe_tup (pa_cons pe_str (pa_cons pe_str pa_nil))) (pa_cons (pe_tup (pa_cons (pe_tup (pa_cons pe_str pa_nil)) (pa_cons pe_str pa_nil))) pa_nil)))))))))
      (pss_cons (ps_set (i := 0) scEd.nd rfl (.inl rfl) (pe_op op_cat (pv 0) (pe_lst (pa_cons (pe_tup (pa_cons (pe_tup pa_nil) (pa_cons pe_str pa_nil))) (pa_cons (pe_tup (pa_cons (pe_tup pa_nil) (pa_cons pe_non pa_nil))) (pa_cons (pe_tup (pa_cons pe_str (pa_cons pe_int (pa_cons pe_bl (pa_cons (pe_tup pa_nil) pa_nil))))) (pa_cons (pe_tup (pa_cons pe_str (pa_cons pe_int (pa_cons pe_bl (pa_cons (pe_tup pa_nil) pa_nil))))) (pa_cons (pe_tup (pa_cons pe_str (pa_cons pe_bl (pa_cons pe_bl (pa_cons (pe_tup pa_nil) pa_nil))))) pa_nil))))))))
      (pss_cons (ps_set (i := 0) scEd.nd rfl (.inl rfl) (pe_op op_cat (pv 0) (pe_lst (pa_cons (pe_tup (pa_cons pe_str (pa_cons pe_int (pa_cons pe_int (pa_cons (pe_tup pa_nil) pa_nil))))) (pa_cons (pe_tup (pa_cons pe_str (pa_cons pe_int (pa_cons pe_non (pa_cons (pe_tup pa_nil) pa_nil))))) (pa_cons (pe_tup (pa_cons pe_str (pa_cons pe_int (pa_cons pe_bl (pa_cons (pe_lst (pa_cons pe_str pa_nil)) pa_nil))))) (pa_cons (pe_tup (pa_cons pe_str (pa_cons pe_int (pa_cons pe_bl (pa_cons (pe_tup (pa_cons pe_str (pa_cons pe_str pa_nil))) pa_nil))))) pa_nil)))))))
      (pss_cons (ps_set (i := 0) scEd.nd rfl (.inl rfl) (pe_op op_cat (pv 0) (pe_lst (pa_cons (pe_tup (pa_cons pe_str (pa_cons pe_int (pa_cons pe_bl pa_nil)))) (pa_cons (pe_tup (pa_cons pe_str (pa_cons pe_int (pa_cons pe_bl (pa_cons (pe_tup pa_nil) (pa_cons (pe_tup pa_nil) pa_nil)))))) (pa_cons (pe_tup (pa_cons pe_str (pa_cons pe_int (pa_cons pe_bl (pa_cons (pe_tup (pa_cons pe_str (pa_cons pe_str pa_nil))) pa_nil))))) (pa_cons (pe_tup (pa_cons pe_str (pa_cons (pe_op op_pow pe_int pe_int) (pa_cons pe_bl (pa_cons (pe_tup (pa_cons pe_str pa_nil)) pa_nil))))) pa_nil)))))))
      (pss_cons (ps_set (i := 0) scEd.nd rfl (.inl rfl) (pe_op op_cat (pv 0) (pe_lst (pa_cons (pe_tup (pa_cons (pe_tup (pa_cons (pe_tup (pa_cons pe_str (pa_cons pe_int (pa_cons pe_bl (pa_cons (pe_tup pa_nil) pa_nil))))) pa_nil)) (pa_cons pe_str pa_nil))) (pa_cons (pe_tup (pa_cons (pe_tup (pa_cons (pe_tup (pa_cons pe_str (pa_cons pe_int (pa_cons pe_bl (pa_cons (pe_tup (pa_cons pe_str pa_nil)) pa_nil))))) pa_nil)) (pa_cons pe_str pa_nil))) (pa_cons (pe_tup (pa_cons (pe_tup (pa_cons (pe_tup (pa_cons pe_str (pa_cons pe_int (pa_cons pe_bl (pa_cons (pe_tup (pa_cons pe_str pa_nil)) pa_nil))))) pa_nil)) (pa_cons pe_str pa_nil))) pa_nil))))))
      (pss_one (ps_ret (pe_op op_cat (pv 0) (pe_lst (pa_cons (pe_tup (pa_cons (pe_tup (pa_cons (pe_tup (pa_cons pe_str (pa_cons pe_int (pa_cons pe_bl (pa_cons (pe_tup pa_nil) pa_nil))))) pa_nil)) (pa_cons (pe_tup (pa_cons pe_str pa_nil)) pa_nil))) (pa_cons (pe_tup (pa_cons (pe_lst (pa_cons (pe_tup (pa_cons pe_str (pa_cons pe_int (pa_cons pe_bl (pa_cons (pe_tup pa_nil) pa_nil))))) pa_nil)) (pa_cons pe_str pa_nil))) (pa_cons (pe_tup (pa_cons (pe_op op_mulT (pe_tup (pa_cons (pe_tup (pa_cons pe_str (pa_cons pe_int (pa_cons pe_bl (pa_cons (pe_tup pa_nil) pa_nil))))) pa_nil)) pe_int) (pa_cons pe_str pa_nil))) pa_nil)))))))))))))))))))), ?_⟩
    refine seq_asg (dl_new (K := K) (ds := ed0) (da_cons de_non (da_cons de_bl (da_cons de_bl (da_cons de_int (da_cons de_int (da_cons de_neg (da_cons de_big (da_cons de_negbig (da_cons de_str (da_cons de_str (da_cons de_str (da_cons de_str (da_cons de_str (da_cons de_str (da_cons de_str (da_cons de_str da_nil)))))))))))))))) (show 16 ≤ 1000 by decide) _ _ _ fun l0 vs0 G0 s0 n0 d0 => ?_)
    dsimp only [gName]
    refine seq_asg (dl_more (K := K) (ds := ed0) (es := ed1) n0 d0 (fun R r => ⟨_, rfl, r⟩) (da_cons de_str (da_cons de_str (da_cons de_str (da_cons (de_tup da_nil (show 0 ≤ 1000 by decide)) (da_cons (de_lst da_nil (show 0 ≤ 1000 by decide)) (da_cons (de_tup (da_cons de_non da_nil) (show 1 ≤ 1000 by decide)) (da_cons (de_tup (da_cons de_str da_nil) (show 1 ≤ 1000 by decide)) (da_cons (de_tup (da_cons de_str (da_cons de_str da_nil)) (show 2 ≤ 1000 by decide)) (da_cons (de_tup (da_cons de_str (da_cons de_str da_nil)) (show 2 ≤ 1000 by decide)) (da_cons (de_tup (da_cons de_str (da_cons de_str da_nil)) (show 2 ≤ 1000 by decide)) (da_cons (de_lst (da_cons de_str (da_cons de_str da_nil)) (show 2 ≤ 1000 by decide)) (da_cons (de_tup (da_cons de_str (da_cons de_int da_nil)) (show 2 ≤ 1000 by decide)) da_nil)))))))))))) (show 16 + 12 ≤ 1000 by decide) fun l1 vs1 G1 t1 n1 d1 => ?_)
    dsimp only [gName]
    have s1 := s0.trans t1
    refine seq_asg (dl_more (K := K) (ds := (ed0 ++ ed1)) (es := ed2) n1 d1 (fun R r => ⟨_, rfl, r⟩) (da_cons (de_tup (da_cons de_str (da_cons de_bl da_nil)) (show 2 ≤ 1000 by decide)) (da_cons (de_tup (da_cons de_str (da_cons de_neg da_nil)) (show 2 ≤ 1000 by decide)) (da_cons (de_tup (da_cons de_int (da_cons de_str da_nil)) (show 2 ≤ 1000 by decide)) (da_cons (de_tup (da_cons de_str (da_cons de_int (da_cons de_int da_nil))) (show 3 ≤ 1000 by decide)) (da_cons (de_tup (da_cons (de_tup (da_cons de_str (da_cons de_int da_nil)) (show 2 ≤ 1000 by decide)) da_nil) (show 1 ≤ 1000 by decide)) (da_cons (de_tup (da_cons (de_tup (da_cons de_str (da_cons de_int da_nil)) (show 2 ≤ 1000 by decide)) (da_cons (de_tup (da_cons de_str (da_cons de_int da_nil)) (show 2 ≤ 1000 by decide)) da_nil)) (show 2 ≤ 1000 by decide)) da_nil)))))) (show 28 + 6 ≤ 1000 by decide) fun l2 vs2 G2 t2 n2 d2 => ?_)
    dsimp only [gName]
    have s2 := s1.trans t2
    refine seq_asg (dl_more (K := K) (ds := ((ed0 ++ ed1) ++ ed2)) (es := ed3) n2 d2 (fun R r => ⟨_, rfl, r⟩) (da_cons (de_lst (da_cons (de_tup (da_cons de_str (da_cons de_int da_nil)) (show 2 ≤ 1000 by decide)) (da_cons (de_tup (da_cons de_str (da_cons de_int da_nil)) (show 2 ≤ 1000 by decide)) da_nil)) (show 2 ≤ 1000 by decide)) (da_cons (de_tup (da_cons (de_lst (da_cons de_str (da_cons de_int da_nil)) (show 2 ≤ 1000 by decide)) (da_cons (de_tup (da_cons de_str (da_cons de_int da_nil)) (show 2 ≤ 1000 by decide)) da_nil)) (show 2 ≤ 1000 by decide)) (da_cons (de_tup (da_cons (de_tup (da_cons de_str (da_cons de_int da_nil)) (show 2 ≤ 1000 by decide)) (da_cons (de_tup (da_cons de_str (da_cons de_int da_nil)) (show 2 ≤ 1000 by decide)) (da_cons (de_tup (da_cons de_str (da_cons de_int da_nil)) (show 2 ≤ 1000 by decide)) da_nil))) (show 3 ≤ 1000 by decide)) da_nil))) (show 34 + 3 ≤ 1000 by decide) fun l3 vs3 G3 t3 n3 d3 => ?_)
    dsimp only [gName]
    have s3 := s2.trans t3
    refine seq_asg (dl_more (K := K) (ds := (((ed0 ++ ed1) ++ ed2) ++ ed3)) (es := ed4) n3 d3 (fun R r => ⟨_, rfl, r⟩) (da_cons (de_tup (da_cons de_str (da_cons (de_tup (da_cons de_str (da_cons de_int da_nil)) (show 2 ≤ 1000 by decide)) (da_cons (de_tup (da_cons de_str (da_cons de_int da_nil)) (show 2 ≤ 1000 by decide)) da_nil))) (show 3 ≤ 1000 by decide)) (da_cons (de_tup (da_cons de_str (da_cons (de_tup (da_cons (de_tup (da_cons de_str (da_cons de_int da_nil)) (show 2 ≤ 1000 by decide)) (da_cons (de_tup (da_cons de_str (da_cons de_int da_nil)) (show 2 ≤ 1000 by decide)) da_nil)) (show 2 ≤ 1000 by decide)) da_nil)) (show 2 ≤ 1000 by decide)) (da_cons (de_tup (da_cons de_str (da_cons (de_tup (da_cons de_str (da_cons de_int da_nil)) (show 2 ≤ 1000 by decide)) (da_cons (de_tup (da_cons de_str (da_cons de_bl da_nil)) (show 2 ≤ 1000 by decide)) da_nil))) (show 3 ≤ 1000 by decide)) da_nil))) (show 37 + 3 ≤ 1000 by decide) fun l4 vs4 G4 t4 n4 d4 => ?_)
    dsimp only [gName]
    have s4 := s3.trans t4
    refine seq_asg (dl_more (K := K) (ds := ((((ed0 ++ ed1) ++ ed2) ++ ed3) ++ ed4)) (es := ed5) n4 d4 (fun R r => ⟨_, rfl, r⟩) (da_cons (de_tup (da_cons de_str (da_cons (de_lst (da_cons de_str (da_cons de_int da_nil)) (show 2 ≤ 1000 by decide)) (da_cons (de_tup (da_cons de_str (da_cons de_int da_nil)) (show 2 ≤ 1000 by decide)) da_nil))) (show 3 ≤ 1000 by decide)) (da_cons (de_tup (da_cons de_str (da_cons (de_tup (da_cons de_str (da_cons de_int da_nil)) (show 2 ≤ 1000 by decide)) (da_cons (de_tup (da_cons de_str (da_cons de_int da_nil)) (show 2 ≤ 1000 by decide)) (da_cons de_int da_nil)))) (show 4 ≤ 1000 by decide)) (da_cons (de_tup (da_cons de_str da_nil) (show 1 ≤ 1000 by decide)) (da_cons (de_tup (da_cons de_str (da_cons de_str da_nil)) (show 2 ≤ 1000 by decide)) da_nil)))) (show 40 + 4 ≤ 1000 by decide) fun l5 vs5 G5 t5 n5 d5 => ?_)
    dsimp only [gName]
    have s5 := s4.trans t5
    refine seq_asg (dl_more (K := K) (ds := (((((ed0 ++ ed1) ++ ed2) ++ ed3) ++ ed4) ++ ed5)) (es := ed6) n5 d5 (fun R r => ⟨_, rfl, r⟩) (da_cons (de_tup (da_cons de_str da_nil) (show 1 ≤ 1000 by decide)) (da_cons (de_tup (da_cons de_str (da_cons de_str da_nil)) (show 2 ≤ 1000 by decide)) (da_cons (de_tup (da_cons de_str (da_cons de_str da_nil)) (show 2 ≤ 1000 by decide)) (da_cons (de_tup (da_cons de_str (da_cons de_str da_nil)) (show 2 ≤ 1000 by decide)) (da_cons (de_tup (da_cons de_str (da_cons de_bl da_nil)) (show 2 ≤ 1000 by decide)) da_nil))))) (show 44 + 5 ≤ 1000 by decide) fun l6 vs6 G6 t6 n6 d6 => ?_)
    dsimp only [gName]
    have s6 := s5.trans t6
    refine ⟨.ref l6, rfl, .inl ⟨rfl, _, .inl (.inl upd_same)⟩, (show 3 ≤ sizeLine by decide), fun t7 nt7 => ⟨l6, vs6, _, rfl, rfl, ?_, ?_, ?_⟩⟩
    · rw [upd_ne (ne_of_none upd_same nt7)]
      exact upd_same
    · rw [dsLen d6]
      decide
    have at_7 : l6 ≠ t7 := ne_of_none upd_same nt7
    have free7 : G6 t7 = none := by
      rw [upd_ne at_7.symm] at nt7
      exact nt7
    rw [swap3 at_7]
    have s7a := same_new (o := .tup [V.str "guard", V.str "on", V.str "off"]) free7
    have n7 : (upd G6 t7 (.tup [V.str "guard", V.str "on", V.str "off"])) l6 = none := by rw [upd_ne at_7]; exact n6
    have d7 : DpAll K (upd G6 t7 (.tup [V.str "guard", V.str "on", V.str "off"])) (vs6 ++ [V.ref t7]) (((((((ed0 ++ ed1) ++ ed2) ++ ed3) ++ ed4) ++ ed5) ++ ed6) ++ ed7) := dsApp (dsKeep s7a d6) (.cons (.tup (.inl (.inl upd_same)) (.cons (.str _) (.cons (.str _) (.cons (.str _) .nil)))) .nil)
    have s7 := s6.trans s7a
    generalize upd G6 t7 (.tup [V.str "guard", V.str "on", V.str "off"]) = G7 at n7 d7 s7 ⊢
    generalize vs6 ++ [V.ref t7] = vs7 at d7 ⊢
    generalize l6 = l7 at n7 ⊢
    dsimp only
    refine seq_asg (dl_more (K := K) (ds := (((((((ed0 ++ ed1) ++ ed2) ++ ed3) ++ ed4) ++ ed5) ++ ed6) ++ ed7)) (es := ed8) n7 d7 (fun R r => ⟨_, rfl, r⟩) (da_cons (de_tup (da_cons de_str (da_cons de_str da_nil)) (show 2 ≤ 1000 by decide)) (da_cons (de_tup (da_cons de_str (da_cons de_str da_nil)) (show 2 ≤ 1000 by decide)) (da_cons (de_tup (da_cons de_str (da_cons (de_tup (da_cons de_str da_nil) (show 1 ≤ 1000 by decide)) da_nil)) (show 2 ≤ 1000 by decide)) (da_cons (de_lst (da_cons de_str (da_cons de_str da_nil)) (show 2 ≤ 1000 by decide)) (da_cons (de_tup (da_cons de_str (da_cons de_str da_nil)) (show 2 ≤ 1000 by decide)) (da_cons (de_tup (da_cons (de_tup (da_cons de_str da_nil) (show 1 ≤ 1000 by decide)) (da_cons de_str da_nil)) (show 2 ≤ 1000 by decide)) da_nil)))))) (show 50 + 6 ≤ 1000 by decide) fun l8 vs8 G8 t8 n8 d8 => ?_)
    dsimp only [gName]
    have s8 := s7.trans t8
    refine seq_asg (dl_more (K := K) (ds := ((((((((ed0 ++ ed1) ++ ed2) ++ ed3) ++ ed4) ++ ed5) ++ ed6) ++ ed7) ++ ed8)) (es := ed9) n8 d8 (fun R r => ⟨_, rfl, r⟩) (da_cons (de_tup (da_cons (de_tup da_nil (show 0 ≤ 1000 by decide)) (da_cons de_str da_nil)) (show 2 ≤ 1000 by decide)) (da_cons (de_tup (da_cons (de_tup da_nil (show 0 ≤ 1000 by decide)) (da_cons de_non da_nil)) (show 2 ≤ 1000 by decide)) (da_cons (de_tup (da_cons de_str (da_cons de_int (da_cons de_bl (da_cons (de_tup da_nil (show 0 ≤ 1000 by decide)) da_nil)))) (show 4 ≤ 1000 by decide)) (da_cons (de_tup (da_cons de_str (da_cons de_int (da_cons de_bl (da_cons (de_tup da_nil (show 0 ≤ 1000 by decide)) da_nil)))) (show 4 ≤ 1000 by decide)) (da_cons (de_tup (da_cons de_str (da_cons de_bl (da_cons de_bl (da_cons (de_tup da_nil (show 0 ≤ 1000 by decide)) da_nil)))) (show 4 ≤ 1000 by decide)) da_nil))))) (show 56 + 5 ≤ 1000 by decide) fun l9 vs9 G9 t9 n9 d9 => ?_)
    dsimp only [gName]
    have s9 := s8.trans t9
    refine seq_asg (dl_more (K := K) (ds := (((((((((ed0 ++ ed1) ++ ed2) ++ ed3) ++ ed4) ++ ed5) ++ ed6) ++ ed7) ++ ed8) ++ ed9)) (es := ed10) n9 d9 (fun R r => ⟨_, rfl, r⟩) (da_cons (de_tup (da_cons de_str (da_cons de_int (da_cons de_int (da_cons (de_tup da_nil (show 0 ≤ 1000 by decide)) da_nil)))) (show 4 ≤ 1000 by decide)) (da_cons (de_tup (da_cons de_str (da_cons de_int (da_cons de_non (da_cons (de_tup da_nil (show 0 ≤ 1000 by decide)) da_nil)))) (show 4 ≤ 1000 by decide)) (da_cons (de_tup (da_cons de_str (da_cons de_int (da_cons de_bl (da_cons (de_lst (da_cons de_str da_nil) (show 1 ≤ 1000 by decide)) da_nil)))) (show 4 ≤ 1000 by decide)) (da_cons (de_tup (da_cons de_str (da_cons de_int (da_cons de_bl (da_cons (de_tup (da_cons de_str (da_cons de_str da_nil)) (show 2 ≤ 1000 by decide)) da_nil)))) (show 4 ≤ 1000 by decide)) da_nil)))) (show 61 + 4 ≤ 1000 by decide) fun l10 vs10 G10 t10 n10 d10 => ?_)
    dsimp only [gName]
    have s10 := s9.trans t10
    refine seq_asg (dl_more (K := K) (ds := ((((((((((ed0 ++ ed1) ++ ed2) ++ ed3) ++ ed4) ++ ed5) ++ ed6) ++ ed7) ++ ed8) ++ ed9) ++ ed10)) (es := ed11) n10 d10 (fun R r => ⟨_, rfl, r⟩) (da_cons (de_tup (da_cons de_str (da_cons de_int (da_cons de_bl da_nil))) (show 3 ≤ 1000 by decide)) (da_cons (de_tup (da_cons de_str (da_cons de_int (da_cons de_bl (da_cons (de_tup da_nil (show 0 ≤ 1000 by decide)) (da_cons (de_tup da_nil (show 0 ≤ 1000 by decide)) da_nil))))) (show 5 ≤ 1000 by decide)) (da_cons (de_tup (da_cons de_str (da_cons de_int (da_cons de_bl (da_cons (de_tup (da_cons de_str (da_cons de_str da_nil)) (show 2 ≤ 1000 by decide)) da_nil)))) (show 4 ≤ 1000 by decide)) (da_cons (de_tup (da_cons de_str (da_cons de_big (da_cons de_bl (da_cons (de_tup (da_cons de_str da_nil) (show 1 ≤ 1000 by decide)) da_nil)))) (show 4 ≤ 1000 by decide)) da_nil)))) (show 65 + 4 ≤ 1000 by decide) fun l11 vs11 G11 t11 n11 d11 => ?_)
    dsimp only [gName]
    have s11 := s10.trans t11
    refine seq_asg (dl_more (K := K) (ds := (((((((((((ed0 ++ ed1) ++ ed2) ++ ed3) ++ ed4) ++ ed5) ++ ed6) ++ ed7) ++ ed8) ++ ed9) ++ ed10) ++ ed11)) (es := ed12) n11 d11 (fun R r => ⟨_, rfl, r⟩) (da_cons (de_tup (da_cons (de_tup (da_cons (de_tup (da_cons de_str (da_cons de_int (da_cons de_bl (da_cons (de_tup da_nil (show 0 ≤ 1000 by decide)) da_nil)))) (show 4 ≤ 1000 by decide)) da_nil) (show 1 ≤ 1000 by decide)) (da_cons de_str da_nil)) (show 2 ≤ 1000 by decide)) (da_cons (de_tup (da_cons (de_tup (da_cons (de_tup (da_cons de_str (da_cons de_int (da_cons de_bl (da_cons (de_tup (da_cons de_str da_nil) (show 1 ≤ 1000 by decide)) da_nil)))) (show 4 ≤ 1000 by decide)) da_nil) (show 1 ≤ 1000 by decide)) (da_cons de_str da_nil)) (show 2 ≤ 1000 by decide)) (da_cons (de_tup (da_cons (de_tup (da_cons (de_tup (da_cons de_str (da_cons de_int (da_cons de_bl (da_cons (de_tup (da_cons de_str da_nil) (show 1 ≤ 1000 by decide)) da_nil)))) (show 4 ≤ 1000 by decide)) da_nil) (show 1 ≤ 1000 by decide)) (da_cons de_str da_nil)) (show 2 ≤ 1000 by decide)) da_nil))) (show 69 + 3 ≤ 1000 by decide) fun l12 vs12 G12 t12 n12 d12 => ?_)
    dsimp only [gName]
    have s12 := s11.trans t12
    refine dl_more (K := K) (ds := ((((((((((((ed0 ++ ed1) ++ ed2) ++ ed3) ++ ed4) ++ ed5) ++ ed6) ++ ed7) ++ ed8) ++ ed9) ++ ed10) ++ ed11) ++ ed12)) (es := ed13) n12 d12 (fun R r => ⟨_, rfl, r⟩) (da_cons (de_tup (da_cons (de_tup (da_cons (de_tup (da_cons de_str (da_cons de_int (da_cons de_bl (da_cons (de_tup da_nil (show 0 ≤ 1000 by decide)) da_nil)))) (show 4 ≤ 1000 by decide)) da_nil) (show 1 ≤ 1000 by decide)) (da_cons (de_tup (da_cons de_str da_nil) (show 1 ≤ 1000 by decide)) da_nil)) (show 2 ≤ 1000 by decide)) (da_cons (de_tup (da_cons (de_lst (da_cons (de_tup (da_cons de_str (da_cons de_int (da_cons de_bl (da_cons (de_tup da_nil (show 0 ≤ 1000 by decide)) da_nil)))) (show 4 ≤ 1000 by decide)) da_nil) (show 1 ≤ 1000 by decide)) (da_cons de_str da_nil)) (show 2 ≤ 1000 by decide)) (da_cons (de_tup (da_cons (de_twice (de_tup (da_cons de_str (da_cons de_int (da_cons de_bl (da_cons (de_tup da_nil (show 0 ≤ 1000 by decide)) da_nil)))) (show 4 ≤ 1000 by decide))) (da_cons de_str da_nil)) (show 2 ≤ 1000 by decide)) da_nil))) (show 72 + 3 ≤ 1000 by decide) fun l13 vs13 G13 t13 n13 d13 => ?_
    have s13 := s12.trans t13
    exact q l13 vs13 G13 s13 n13 d13
end
end Kn


namespace Kn
open PySem PySem.Spec PyProof.Rows L2
/-! ### how large a page is -/
theorem lt_neq {a b : Str} (ha : a ∈ names) (h : Lt a b) : a ≠ b := by
  have all : (names.all fun a => !ltCps a.cps.toList a.cps.toList) = true := by decide +kernel
  have q := List.all_eq_true.mp all a ha
  rintro rfl
  unfold Lt at h
  rw [h] at q
  cases q
theorem asc_nd {ys : List Str} (h : Asc ys) (hn : ∀ y ∈ ys, y ∈ names) : ys.Nodup := List.Pairwise.imp_of_mem (fun {a b} ha _ l => lt_neq (hn a ha) l) h
theorem sum_sub (f : Str → Nat) : ∀ (ys L : List Str), ys.Nodup → (∀ y ∈ ys, y ∈ L) → (ys.map f).sum ≤ (L.map f).sum
  | [], _, _, _ => Nat.zero_le _
  | y :: r, L, nd, sub => by
    obtain ⟨n1, n2⟩ := List.nodup_cons.mp nd
    have hy := sub y (List.mem_cons_self ..)
    have p := List.perm_cons_erase hy
    have e : (L.map f).sum = f y + ((L.erase y).map f).sum := by
      rw [(p.map f).sum_nat, List.map_cons, List.sum_cons]
    have ih := sum_sub f r (L.erase y) n2 fun z hz => (List.mem_erase_of_ne (fun q => n1 (by rw [← q]; exact hz))).mpr (sub z (List.mem_cons_of_mem _ hz))
    rw [List.map_cons, List.sum_cons, e]
    omega
theorem over_le : ∀ ys : List Str, (ys.map (·.length)).sum ≤ 5 * ys.length + (ys.map fun y => y.length - 5).sum
  | [] => Nat.le_refl _
  | y :: r => by
    have ih := over_le r
    rw [List.map_cons, List.sum_cons, List.map_cons, List.sum_cons, List.length_cons]
    omega
theorem len_names {ys : List Str} (h : Asc ys) (hn : ∀ y ∈ ys, y ∈ names) (l : ys.length ≤ 5) : (ys.map (·.length)).sum ≤ 29 := by
  have a := over_le ys
  have b := sum_sub (fun y => y.length - 5) ys names (asc_nd h hn) hn
  have c : (names.map fun y => y.length - 5).sum = 4 := by decide +kernel
  omega
theorem nodes_strs : ∀ ys : List Str, nodesDs (ys.map PyData.str) = ys.length + (ys.map (·.length)).sum
  | [] => rfl
  | y :: r => by
    have ih := nodes_strs r
    show (1 + y.length) + nodesDs (r.map PyData.str) = _
    rw [ih, List.length_cons, List.map_cons, List.sum_cons]
    omega
theorem nodes_ent {e : Ent} (h : e.nice) (l : e.row.length ≤ 5) : nodesD (dEnt e) ≤ 39 + e.name.length := by
  have s := len_names h.2.2.2 h.2.2.1 l
  have n := nodes_strs e.row
  show 1 + ((1 + e.name.length) + (1 + (1 + ((1 + nodesDs (e.row.map PyData.str)) + 0)))) ≤ _
  omega
theorem nodes_ents : ∀ es : List Ent, (∀ e ∈ es, e.nice ∧ e.row.length ≤ 5) → nodesDs (es.map dEnt) ≤ 39 * es.length + (es.map (·.name.length)).sum
  | [], _ => Nat.le_refl _
  | e :: r, h => by
    have ih := nodes_ents r fun z hz => h z (List.mem_cons_of_mem _ hz)
    obtain ⟨h1, h2⟩ := h e (List.mem_cons_self ..)
    have a := nodes_ent h1 h2
    show nodesD (dEnt e) + nodesDs (r.map dEnt) ≤ _
    rw [List.length_cons, List.map_cons, List.sum_cons]
    omega
structure Small (g : Pg) : Prop where
  nice : ∀ e ∈ g.es, e.nice ∧ e.row.length ≤ 5
  asc : Asc (g.es.map (·.name))
  asks : g.asks ∈ names
  l0 : 0 < g.es.length
  l5 : g.es.length ≤ 5
theorem Small.nodes {g : Pg} (h : Small g) : nodesDs (g.es.map dEnt) ≤ 224 := by
  have a := nodes_ents g.es h.nice
  have b := len_names h.asc (fun y hy => by
    obtain ⟨e, he, rfl⟩ := List.mem_map.mp hy
    exact (h.nice e he).1.1) (by rw [List.length_map]; exact h.l5)
  rw [List.map_map] at b
  have b : (g.es.map (·.name.length)).sum ≤ 29 := b
  have := h.l5
  omega
theorem ascii_name : ∀ y ∈ names, (y.cps.toList.all fun c => decide (c < 128)) = true ∧ y.length ≤ 8 := by
  have all : (names.all fun y => (y.cps.toList.all fun c => decide (c < 128)) && decide (y.length ≤ 8)) = true := by decide +kernel
  intro y hy
  obtain ⟨a, b⟩ := Bool.and_eq_true_iff.mp (List.all_eq_true.mp all y hy)
  exact ⟨a, of_decide_eq_true b⟩
theorem good_txts : ∀ ys : List Str, (∀ y ∈ ys, y ∈ names) → goodDs (ys.map PyData.str) = true ∧ PyData.depthAll (ys.map PyData.str) = 0
  | [], _ => ⟨rfl, rfl⟩
  | y :: r, h => by
    obtain ⟨a, b⟩ := good_txts r fun z hz => h z (List.mem_cons_of_mem _ hz)
    have c := (ascii_name y (h y (List.mem_cons_self ..))).1
    refine ⟨?_, ?_⟩
    · show ((y.cps.toList.all fun c => decide (c < 128)) && goodDs (r.map PyData.str)) = true
      rw [c, a]
      rfl
    · show max 0 (PyData.depthAll (r.map PyData.str)) = 0
      rw [b]
      rfl
theorem good_ent {e : Ent} (h : e.nice) : goodD (dEnt e) = true ∧ (dEnt e).depth ≤ 2 := by
  obtain ⟨a, b⟩ := good_txts e.row h.2.2.1
  have c := (ascii_name _ h.1).1
  have f := feesAll_ok _ h.2.1
  refine ⟨?_, ?_⟩
  · show ((e.name.cps.toList.all fun c => decide (c < 128)) && (decide (e.fee.natAbs < 10 ^ 60) && (true && (goodDs (e.row.map PyData.str) && true)))) = true
    rw [c, decide_eq_true f, a]
    rfl
  · show max 0 (max 0 (max 0 (max (PyData.depthAll (e.row.map PyData.str) + 1) 0))) + 1 ≤ 2
    rw [b]
    decide
theorem good_ents : ∀ es : List Ent, (∀ e ∈ es, e.nice) → goodDs (es.map dEnt) = true ∧ PyData.depthAll (es.map dEnt) ≤ 2
  | [], _ => ⟨rfl, Nat.zero_le _⟩
  | e :: r, h => by
    obtain ⟨a, b⟩ := good_ents r fun z hz => h z (List.mem_cons_of_mem _ hz)
    obtain ⟨c, d⟩ := good_ent (h e (List.mem_cons_self ..))
    refine ⟨?_, ?_⟩
    · show (goodD (dEnt e) && goodDs (r.map dEnt)) = true
      rw [a, c]
      rfl
    · show max (dEnt e).depth (PyData.depthAll (r.map dEnt)) ≤ 2
      omega
theorem Small.tm {g : Pg} (h : Small g) : Tm 224 2 (g.es.map dEnt) := by
  obtain ⟨a, b⟩ := good_ents g.es fun e he => (h.nice e he).1
  exact ⟨a, h.nodes, b⟩
/-- a page of these entries -/
theorem page_good {n : Nat} {es : List PyData} {a : Str} (t : Tm n 2 es) (ha : a ∈ names) : goodD (.tuple [.tuple es, .str a]) = true ∧ (PyData.tuple [.tuple es, .str a]).depth ≤ 4 ∧ nodesD (.tuple [.tuple es, .str a]) ≤ n + 11 := by
  obtain ⟨c, l⟩ := ascii_name a ha
  have g : goodDs es = true := t.g
  have d := t.d
  have k := t.n
  refine ⟨?_, ?_, ?_⟩
  · show (goodDs es && ((a.cps.toList.all fun c => decide (c < 128)) && true)) = true
    rw [g, c]
    rfl
  · show max (PyData.depthAll es + 1) (max 0 0) + 1 ≤ 4
    omega
  · show 1 + ((1 + nodesDs es) + ((1 + a.length) + 0)) ≤ n + 11
    omega
end Kn


namespace Kn
open PySem PySem.Spec PyProof.Rows L2
abbrev nLaw : List Str := ["_law_script", "_law_feed", "_law_items", "_law_lap", "_law_page_here", "_law_stores", "_law_letter", "_law_some", "_law_one", "_law_once", "_law_told", "_law_entry", "_law_item"]
theorem scLaw : FnScope nLaw ["_law_script"] (defScope (topS 35)) := ⟨rfl, rfl, rfl, by decide +kernel, rfl, by decide +kernel, by decide +kernel⟩
def spLaw (K : PySem.W.Frag) : Sp := fun vs H Q _ => ∃ (a : Addr) (ns : List Int), vs = [.ref a] ∧ SqL K H a (ns.map V.int) ∧ ns.length ≤ 63 ∧ ∀ H', Q (.bl true) H'
structure KL (K : PySem.W.Frag) (X : Hp) (L : Addr) (ds : List PyData) : Prop where
  ex : ∃ xs, X L = some (.lst xs) ∧ DpAll K X xs ds
theorem KL.keep {K : PySem.W.Frag} {f a : Addr} {ms : List Int} {X X' : Hp} {L : Addr} {ds : List PyData} {c : Nat} (h : KL K X L ds) (d : Fd f a ms X c) (k : Keep f X X') : KL K X' L ds := by
  obtain ⟨xs, e, q⟩ := h.ex
  exact ⟨xs, k _ _ (fd_ne d e) e, dsFd d k q⟩
theorem keep_put {f D : Addr} {J G : Hp} {o : HO} (k : Keep f J G) (n : J D = none) : Keep f J (upd G D o) := fun b x nb h => by
  rw [upd_ne (ne_of_none h n)]
  exact k b x nb h
structure SmallD (d : PyData) : Prop where
  g : goodD d = true
  n : nodesD d ≤ 235
  d : d.depth ≤ 4
theorem SmallD.fine {d : PyData} (h : SmallD d) : Fine d := ⟨h.g, Nat.le_trans h.d (by decide), Nat.le_trans h.n (by decide)⟩
def StAt (K : PySem.W.Frag) (H : Hp) (v : V) : Prop := ∃ (p : Addr) (n : Str) (i : Int), v = .ref p ∧ SqT K H p [.str n, .int i] ∧ n ∈ names ∧ 0 ≤ i ∧ i < 12
theorem StAt.ts {K : PySem.W.Frag} {H H' : Hp} {v : V} (s : TS H H') (h : StAt K H v) : StAt K H' v := by
  obtain ⟨p, n, i, a, b, c⟩ := h
  exact ⟨p, n, i, a, tupT s b, c⟩
def stD (n : Str) (i : Int) : PyData := .tuple [.str n, .int i]
theorem StAt.dp {K : PySem.W.Frag} {H : Hp} {v : V} (h : StAt K H v) : ∃ n i, n ∈ names ∧ 0 ≤ i ∧ i < 12 ∧ Dp K H v (stD n i) := by
  obtain ⟨p, n, i, rfl, b, c, d, e⟩ := h
  exact ⟨n, i, c, d, e, .tup b (.cons (.str _) (.cons (.int _) .nil))⟩
theorem small_str {n : Str} (h : n ∈ names) : SmallD (.str n) := by
  obtain ⟨a, b⟩ := ascii_name n h
  exact ⟨a, by show 1 + n.length ≤ 235; omega, Nat.zero_le _⟩
theorem st_good {n : Str} {i : Int} (h : n ∈ names) (h0 : 0 ≤ i) (h1 : i < 12) : goodD (stD n i) = true ∧ nodesD (stD n i) ≤ 11 ∧ (stD n i).depth ≤ 1 := by
  obtain ⟨a, b⟩ := ascii_name n h
  refine ⟨?_, ?_, ?_⟩
  · show ((n.cps.toList.all fun c => decide (c < 128)) && (decide (i.natAbs < 10 ^ 60) && true)) = true
    rw [a, decide_eq_true (Nat.lt_of_lt_of_le (show i.natAbs < 12 by omega) (by decide))]
    rfl
  · show 1 + ((1 + n.length) + (1 + 0)) ≤ 11
    omega
  · show max 0 (max 0 0) + 1 ≤ 1
    decide
theorem st_small {n : Str} {i : Int} (h : n ∈ names) (h0 : 0 ≤ i) (h1 : i < 12) : SmallD (stD n i) := by
  obtain ⟨a, b, c⟩ := st_good h h0 h1
  exact ⟨a, by omega, by omega⟩
theorem good_two {a b : PyData} (ha : goodD a = true) (hb : goodD b = true) : goodD (.tuple [a, b]) = true := by
  show (goodD a && (goodD b && true)) = true
  rw [ha, hb]
  rfl
theorem let_small {a b : PyData} (ha : goodD a = true ∧ nodesD a ≤ 11 ∧ a.depth ≤ 1) (hb : goodD b = true ∧ nodesD b ≤ 11 ∧ b.depth ≤ 1) : SmallD (.tuple [a, b]) := by
  obtain ⟨a1, a2, a3⟩ := ha
  obtain ⟨b1, b2, b3⟩ := hb
  refine ⟨good_two a1 b1, ?_, ?_⟩
  · show 1 + (nodesD a + (nodesD b + 0)) ≤ 235
    omega
  · show max a.depth (max b.depth 0) + 1 ≤ 4
    omega
theorem came_small {a b : PyData} (ha : goodD a = true ∧ nodesD a ≤ 11 ∧ a.depth ≤ 1) (hb : goodD b = true ∧ nodesD b ≤ 11 ∧ b.depth ≤ 1) : SmallD (.tuple ([.str "came"] ++ [a, b])) := by
  obtain ⟨a1, a2, a3⟩ := ha
  obtain ⟨b1, b2, b3⟩ := hb
  refine ⟨?_, ?_, ?_⟩
  · show (goodD (.str "came") && (goodD a && (goodD b && true))) = true
    rw [a1, b1, show goodD (.str "came") = true by decide +kernel]
    rfl
  · show 1 + (nodesD (.str "came") + (nodesD a + (nodesD b + 0))) ≤ 235
    have : nodesD (.str "came") = 5 := by decide +kernel
    omega
  · show max 0 (max a.depth (max b.depth 0)) + 1 ≤ 4
    omega
theorem note_small {n : Str} (h : n ∈ names) : SmallD (.tuple [.str "note", .str n]) := by
  have s := small_str h
  refine ⟨good_two (by decide +kernel) s.g, ?_, by show max 0 (max 0 0) + 1 ≤ 4; decide⟩
  show 1 + (nodesD (.str "note") + (nodesD (.str n) + 0)) ≤ 235
  have : nodesD (.str "note") = 5 := by decide +kernel
  have := (ascii_name n h).2
  have e : nodesD (.str n) = 1 + n.length := rfl
  omega
theorem guard_small {x : Str} (h : x ∈ onoff) : SmallD (.tuple [.str "guard", .str x]) := by
  have all : ∀ x ∈ onoff, goodD (.str x) = true ∧ nodesD (.str x) ≤ 4 := by decide +kernel
  obtain ⟨a, b⟩ := all x h
  refine ⟨good_two (by decide +kernel) a, ?_, by show max 0 (max 0 0) + 1 ≤ 4; decide⟩
  show 1 + (nodesD (.str "guard") + (nodesD (.str x) + 0)) ≤ 235
  have : nodesD (.str "guard") = 6 := by decide +kernel
  omega
theorem row_small {e : Ent} (h : e.nice) (l : e.row.length ≤ 5) : SmallD (.tuple (e.row.map PyData.str)) := by
  obtain ⟨a, b⟩ := good_txts e.row h.2.2.1
  refine ⟨a, ?_, ?_⟩
  · have s := len_names h.2.2.2 h.2.2.1 l
    have n := nodes_strs e.row
    show 1 + nodesDs (e.row.map PyData.str) ≤ 235
    omega
  · show PyData.depthAll (e.row.map PyData.str) + 1 ≤ 4
    omega
def spAnyT (K : PySem.W.Frag) : Sp := fun vs H Q _ => ∃ (f a p : Addr) (ns : List Int) (c : Nat) (xs : List V), vs = [.ref f, .ref p] ∧ Fd f a ns H c ∧ c < 100000 ∧ SqT K H p xs ∧ 0 < xs.length ∧ xs.length ≤ 1000 ∧
  ∀ (x : V) (H' : Hp), x ∈ xs → Keep f H H' → Fd f a ns H' (c + 1) → Q x H'
section
variable {P : Program} {w : World} {K : PySem.W.Frag} {mg : Str → Option Value} {base : Heap}
theorem ok_anyT {g gD : Addr} {fd fdD : FuncData} (F : Fun K "_law_any" "_law_any" (topS 20) g fd) (FD : Fun K "_law_draw" "_law_draw" (topS 19) gD fdD) (bD : Binds K fdD ["_law_feed", "_law_many"] []) (mD : mg "_law_draw" = some (.ref gD)) (mi : mg "int" = none) (ml : mg "len" = none) :
    FnOk P w K mg base CX0 2 g fd ["_law_feed", "_law_some"] (spAnyT K) := by
  have GD : FnOk P w K mg base CX0 1 gD fdD ["_law_feed", "_law_many"] spDraw := ok_draw FD mi ml
  refine F.ok scAny (fun vs H Q E h => ?_) (fun cdv A outer s H vs Q E hr h => ?_)
  · obtain ⟨f, a, p, ns, c, xs, rfl, _⟩ := h
    rfl
  · obtain ⟨f, a, p, ns, c, xs, rfl, fd0, hc, hL, l0, l1, q⟩ := h
    refine ⟨_, pss_one (ps_ret (pe_ix ix_tup (pv 1) (pe_call GD hr (by rfl) mD FD.kp bD .nil pass0 (pa_cons (pv 0) (pa_cons (pe_callB call_len_seq (by rfl) ml PySem.boot_len (pa_cons (pv 1) pa_nil)) pa_nil))) (fun _ _ => rfl))), ?_⟩
    refine ⟨.ref p, rfl, .ref f, rfl, .ref p, rfl, p, xs, rfl, .inr hL, f, a, ns, c, _, rfl, by omega, by omega, fd0, hc, fun r H' r0 r1 k fd1 => ?_⟩
    obtain ⟨j, rfl⟩ := Int.eq_ofNat_of_zero_le r0
    have hj : j < xs.length := by omega
    exact ⟨p, xs, _, xs[j], rfl, rfl, tupT (ts_fd fd0 k) hL, at_of rfl (List.getElem?_eq_getElem hj), q _ H' (List.getElem_mem hj) k fd1⟩
end
end Kn


namespace Kn
open PySem PySem.Spec PyProof.Rows L2
/-! ### f(x = e): one parameter, given by its name -/
section
variable {X : Cx} {k : Nat} {f : Addr} {fd : FuncData} {y x : Str} {sp : Sp} {p pos kpos : Pos} {e : Expr} {te : TE}
def tKw (sp : Sp) (te : TE) : TE := fun σ H Q => te σ H fun v G => sp [v] G Q E0
theorem pe_kw1 (F : FnOk X.prog X.w X.K X.mg X.base CX0 k f fd [y] sp) (hr : Room k X.A) (hg : Gl X x) (hm : X.mg x = some (.ref f)) (hk : PySem.W.keepIn X.K (.ref f) = true)
    (hb : ∀ (s : Shared) (u : Value), BindsTo s fd ⟨[], [(y, u)]⟩ [(y, u)]) (he : PE X e te) (hdb : (x == ("__debug__" : Str)) = false := by decide)
    (h1 : (backToKw pos (keywordEach [⟨some y, e, kpos⟩] X.env)).all (·.1.isSome) = true := by rfl) (h2 : (backToKw pos (keywordEach [⟨some y, e, kpos⟩] X.env)).filterMap (·.1) = [y] := by rfl)
    (h3 : ((backTo pos (starEach [] X.env)).any (·.1) || (backToKw pos (keywordEach [⟨some y, e, kpos⟩] X.env)).any (·.1.isNone)) = false := by rfl) :
    PE X (.Call (.Name x p) [] [⟨some y, e, kpos⟩] pos) (tKw sp te) := by
  have hkw : PK X [⟨some y, e, kpos⟩] (tCons te tNil) := pk_cons he pk_nil
  refine ⟨fun pins s σ H Q I told => wpAny_Call_Name_kw (ld_glob I hg hm ?_ hdb)⟩
  refine PySem.W.callWith_KW0 (h₀ := X.base) I.ok.mod.kin hk h1 (thn (hkw.run pos pins s σ H (fun vs G => sp vs G Q E0) I told) ?_) h3
  · rintro us s1 ⟨vs, H1, I1, rv, q⟩
    refine ⟨I1.kIn, ?_⟩
    rw [h2]
    have n1 := F.len _ _ _ _ q
    obtain ⟨v, rfl⟩ : ∃ v, vs = [v] := by
      match vs, n1 with
      | [v], _ => exact ⟨v, rfl⟩
    obtain ⟨u, rfl, ru⟩ := vals1 rv
    refine wpAny_call (codeAny_mono (F.run X.A X.stack s1 H1 ⟨[], [(y, u)]⟩ [u] [v] Q E0 hr I1.env0 (hb s1 u) rv q) ?_)
    intro r s2 out
    cases r with
    | error _ => exact False.elim out
    | ok fl =>
      cases fl with
      | ret u => exact I1.after out
      | next => exact False.elim out
      | brk => exact False.elim out
      | cont => exact False.elim out
end
/-! ### f(y1 = e1, y2 = e2), the other way about than the def names them; nothing is raised -/
section
theorem passF {X : Cx} : Passes (L2.CX X.prog X.w) X E0 := by
  rintro pins σ H s e s' I ⟨_, _, _, _, _, _, _, _, _, _, _, _, z⟩
  exact z.elim
variable {X : Cx} {k : Nat} {f : Addr} {fd : FuncData} {y1 y2 x : Str} {sp : Sp} {p pos k1 k2 : Pos} {e1 e2 : Expr} {t1 t2 : TE}
def tKw2 (sp : Sp) (t1 t2 : TE) : TE := fun σ H Q => t1 σ H fun u G => t2 σ G fun v G' => sp [v, u] G' Q E0
theorem pe_kw2 (F : FnOk X.prog X.w X.K X.mg X.base (L2.CX X.prog X.w) k f fd [y2, y1] sp) (hr : Room k X.A) (hg : Gl X x) (hm : X.mg x = some (.ref f)) (hk : PySem.W.keepIn X.K (.ref f) = true)
    (hb : ∀ (s : Shared) (u v : Value), BindsTo s fd ⟨[], [(y1, u), (y2, v)]⟩ [(y2, v), (y1, u)]) (he1 : PE X e1 t1) (he2 : PE X e2 t2) (hdb : (x == ("__debug__" : Str)) = false := by decide)
    (h1 : (backToKw pos (keywordEach [⟨some y1, e1, k1⟩, ⟨some y2, e2, k2⟩] X.env)).all (·.1.isSome) = true := by rfl) (h2 : (backToKw pos (keywordEach [⟨some y1, e1, k1⟩, ⟨some y2, e2, k2⟩] X.env)).filterMap (·.1) = [y1, y2] := by rfl)
    (h3 : ((backTo pos (starEach [] X.env)).any (·.1) || (backToKw pos (keywordEach [⟨some y1, e1, k1⟩, ⟨some y2, e2, k2⟩] X.env)).any (·.1.isNone)) = false := by rfl) :
    PE X (.Call (.Name x p) [] [⟨some y1, e1, k1⟩, ⟨some y2, e2, k2⟩] pos) (tKw2 sp t1 t2) := by
  have hkw : PK X [⟨some y1, e1, k1⟩, ⟨some y2, e2, k2⟩] (tCons t1 (tCons t2 tNil)) := pk_cons he1 (pk_cons he2 pk_nil)
  refine ⟨fun pins s σ H Q I told => wpAny_Call_Name_kw (ld_glob I hg hm ?_ hdb)⟩
  refine PySem.W.callWith_KW0 (h₀ := X.base) I.ok.mod.kin hk h1 (thn (hkw.run pos pins s σ H (fun vs G => ∃ u v, vs = [u, v] ∧ sp [v, u] G Q E0) I ?_) ?_) h3
  · exact (told : t1 σ H fun u G => t2 σ G fun v G' => sp [v, u] G' Q E0) |> fun z => by
      have mono : (tCons t1 (tCons t2 tNil)) σ H (fun vs G => ∃ u v, vs = [u, v] ∧ sp [v, u] G Q E0) = (t1 σ H fun u G => t2 σ G fun v G' => ∃ u' v', [u, v] = [u', v'] ∧ sp [v', u'] G' Q E0) := rfl
      rw [mono]
      have e : (fun (u : V) (G : Hp) => t2 σ G fun v G' => ∃ u' v', [u, v] = [u', v'] ∧ sp [v', u'] G' Q E0) = fun u G => t2 σ G fun v G' => sp [v, u] G' Q E0 := by
        funext u G
        have e2 : (fun (v : V) (G' : Hp) => ∃ u' v', [u, v] = [u', v'] ∧ sp [v', u'] G' Q E0) = fun v G' => sp [v, u] G' Q E0 := by
          funext v G'
          exact propext ⟨fun ⟨u', v', h, q⟩ => by cases h; exact q, fun q => ⟨u, v, rfl, q⟩⟩
        rw [e2]
      rw [e]
      exact z
  · rintro us s1 ⟨vs, H1, I1, rv, u0, v0, rfl, q⟩
    refine ⟨I1.kIn, ?_⟩
    rw [h2]
    cases rv with
    | cons r1 rr =>
      cases rr with
      | cons r2 rr =>
        cases rr
        refine wpAny_call (codeAny_mono (F.run X.A X.stack s1 H1 ⟨[], [(y1, _), (y2, _)]⟩ [_, _] [v0, u0] Q E0 hr I1.env0 (hb s1 _ _) (.cons r2 (.cons r1 .nil)) q) ?_)
        intro r s2 out
        cases r with
        | error e => exact passF pins σ H1 s1 e s2 I1 out
        | ok fl =>
          cases fl with
          | ret u => exact I1.after out
          | next => exact False.elim out
          | brk => exact False.elim out
          | cont => exact False.elim out
end
end Kn


namespace Kn
open PySem PySem.Spec PyProof.Rows L2
section
variable {K : PySem.W.Frag} {σ : L2.St} {H0 : Hp}
theorem dx_kG {f : PyData → Bool} {te : TE} {d : PyData} (h : DE K te d) (n : Nice d) : DX K σ H0 (tKw (spG K f) te) (.bool (f d)) := fun H Q s q =>
  h σ H _ fun v H1 s1 d1 => ⟨v, d, rfl, d1, n, fun H' s' => q _ H' (s1.trans s') (.bl _)⟩
theorem dx_kB {f : PyData → Bool} {te : TE} {d : PyData} (h : DE K te d) : DX K σ H0 (tKw (spB K f) te) (.bool (f d)) := fun H Q s q =>
  h σ H _ fun v H1 s1 d1 => ⟨v, d, rfl, d1, q _ H1 s1 (.bl _)⟩
end
abbrev kd1 : PyData := .int (-3)
abbrev kd2 : PyData := .int 0
abbrev kd3 : PyData := .str "ab"
abbrev kd4 : PyData := .tuple [.str "a"]
abbrev kd5 : PyData := .tuple [.str "a", .int 2, .bool true, .tuple []]
abbrev kd6 : PyData := .tuple [.tuple [.tuple [.str "a", .int 2, .bool false, .tuple []]], .str "a"]
abbrev kd7 : PyData := .tuple [.str "a", .int 7]
abbrev kd8 : PyData := .tuple [.tuple [.str "a", .int 7], .tuple [.str "b", .int 0]]
abbrev kd9 : PyData := .tuple [.str "note", .str "a"]
theorem kd_nice : ∀ d ∈ [kd1, kd2, kd3, kd4, kd5, kd6, kd7, kd8, kd9], Nice d := by
  have all : ([kd1, kd2, kd3, kd4, kd5, kd6, kd7, kd8, kd9].all fun d => goodD d && decide (d.depth ≤ 40) && decide (nodesD d ≤ 1000)) = true := by decide +kernel
  intro d hd
  have z := List.all_eq_true.mp all d hd
  obtain ⟨z1, z3⟩ := Bool.and_eq_true_iff.mp z
  obtain ⟨z1, z2⟩ := Bool.and_eq_true_iff.mp z1
  exact ⟨z1, of_decide_eq_true z2, of_decide_eq_true z3⟩
theorem kd_true : [intB kd1, natB kd2, nameB kd3, rowB kd4, kindB kd5, (fun d => (faultOf d).isNone) kd6, storeB kd7, letterB kd8, eventB kd9] = [true, true, true, true, true, true, true, true, true] := by decide +kernel
abbrev kt1 : List PyData := [.bool (intB kd1), .bool (natB kd2), .bool (nameB kd3), .bool (rowB kd4)]
abbrev kt2 : List PyData := [.bool (kindB kd5), .bool ((fun d => (faultOf d).isNone) kd6)]
abbrev kt3 : List PyData := [.bool (storeB kd7), .bool (letterB kd8), .bool (eventB kd9)]
theorem kt_eq : kt1 ++ kt2 ++ kt3 = (List.replicate 9 [PyData.bool true]).flatten := by
  show [intB kd1, natB kd2, nameB kd3, rowB kd4, kindB kd5, (fun d => (faultOf d).isNone) kd6, storeB kd7, letterB kd8, eventB kd9].map PyData.bool = _
  rw [kd_true]
  rfl
section
variable {P : Program} {w : World} {K : PySem.W.Frag} {mg : Str → Option Value} {base : Heap}
theorem ok_law {g gB gE gG gD gA gN gR p1 p2 p3 p4 p5 p6 p7 p8 p9 : Addr} {fd fB fE fG fD fA fN fR e1 e2 e3 e4 e5 e6 e7 e8 e9 : FuncData} (F : Fun K "law" "law" (topS 35) g fd)
    (B : Def K mg "_law_start" 18 ["_law_script"] gB fB) (OB : FnOk P w K mg base CX0 1 gB fB ["_law_script"] (spStart K))
    (Ed : Def K mg "_law_edges" 34 [] gE fE) (OE : FnOk P w K mg base CX0 1 gE fE [] (spEd K))
    (G : Def K mg "_law_page" 22 ["_law_feed", "_law_most"] gG fG) (OG : FnOk P w K mg base CX0 4 gG fG ["_law_feed", "_law_most"] (spPg K))
    (D : Def K mg "_law_draw" 19 ["_law_feed", "_law_many"] gD fD) (OD : FnOk P w K mg base CX0 1 gD fD ["_law_feed", "_law_many"] spDraw)
    (A : Def K mg "_law_any" 20 ["_law_feed", "_law_some"] gA fA) (OA : FnOk P w K mg base CX0 2 gA fA ["_law_feed", "_law_some"] (spAny K)) (OT : FnOk P w K mg base CX0 2 gA fA ["_law_feed", "_law_some"] (spAnyT K))
    (N : Def K mg "_law_bent" 24 ["_law_feed", "_law_item"] gN fN) (ON : FnOk P w K mg base CX0 12 gN fN ["_law_feed", "_law_item"] (spBent K 8))
    (R : Def K mg "_law_is_right" 33 ["_law_item"] gR fR) (OV : Vow P w K mg base 6 gR fR ["_law_item"] (spRt K))
    (P1 : Def K mg "is_integer" 3 ["thing"] p1 e1) (Q1 : FnOk P w K mg base CX0 1 p1 e1 ["thing"] (spB K intB)) (kP1 : ∀ (s : Shared) (u : Value), BindsTo s e1 ⟨[], [("thing", u)]⟩ [("thing", u)])
    (P2 : Def K mg "is_number" 4 ["thing"] p2 e2) (Q2 : FnOk P w K mg base CX0 2 p2 e2 ["thing"] (spB K natB)) (kP2 : ∀ (s : Shared) (u : Value), BindsTo s e2 ⟨[], [("thing", u)]⟩ [("thing", u)])
    (P3 : Def K mg "is_name" 6 ["thing"] p3 e3) (Q3 : FnOk P w K mg base CX0 1 p3 e3 ["thing"] (spG K nameB)) (kP3 : ∀ (s : Shared) (u : Value), BindsTo s e3 ⟨[], [("thing", u)]⟩ [("thing", u)])
    (P4 : Def K mg "is_table" 7 ["thing"] p4 e4) (Q4 : FnOk P w K mg base CX0 2 p4 e4 ["thing"] (spG K rowB)) (kP4 : ∀ (s : Shared) (u : Value), BindsTo s e4 ⟨[], [("thing", u)]⟩ [("thing", u)])
    (P5 : Def K mg "is_kind" 8 ["thing"] p5 e5) (Q5 : FnOk P w K mg base CX0 3 p5 e5 ["thing"] (spG K kindB)) (kP5 : ∀ (s : Shared) (u : Value), BindsTo s e5 ⟨[], [("thing", u)]⟩ [("thing", u)])
    (P6 : Def K mg "is_web" 12 ["thing"] p6 e6) (Q6 : FnOk P w K mg base CX0 5 p6 e6 ["thing"] (spG K fun d => (faultOf d).isNone)) (kP6 : ∀ (s : Shared) (u : Value), BindsTo s e6 ⟨[], [("thing", u)]⟩ [("thing", u)])
    (P7 : Def K mg "is_store" 13 ["thing"] p7 e7) (Q7 : FnOk P w K mg base CX0 3 p7 e7 ["thing"] (spG K storeB)) (kP7 : ∀ (s : Shared) (u : Value), BindsTo s e7 ⟨[], [("thing", u)]⟩ [("thing", u)])
    (P8 : Def K mg "is_letter" 14 ["thing"] p8 e8) (Q8 : FnOk P w K mg base CX0 4 p8 e8 ["thing"] (spG K letterB)) (kP8 : ∀ (s : Shared) (u : Value), BindsTo s e8 ⟨[], [("thing", u)]⟩ [("thing", u)])
    (P9 : Def K mg "is_event" 16 ["thing"] p9 e9) (Q9 : FnOk P w K mg base CX0 5 p9 e9 ["thing"] (spG K eventB)) (kP9 : ∀ (s : Shared) (u : Value), BindsTo s e9 ⟨[], [("thing", u)]⟩ [("thing", u)])
    (mr : mg "range" = none) (mp : mg "repr" = none) : Vow P w K mg base 13 g fd ["_law_script"] (spLaw K) := by
  refine Vow.body F scLaw (fun vs H Q E h => ?_) (fun cdv A' outer s H vs Q E hq hr h => ?_)
  · obtain ⟨a, ns, rfl, _⟩ := h
    rfl
  · obtain ⟨a0, ns0, rfl, hS, hl, q⟩ := h
    have hr1 : Room 1 _ := hr.mono (by decide)
    have hr2 : Room 2 _ := hr.mono (by decide)
    have hr3 : Room 3 _ := hr.mono (by decide)
    have hr4 : Room 4 _ := hr.mono (by decide)
    have hr5 : Room 5 _ := hr.mono (by decide)
    have hr6 : Room 6 _ := hr.mono (by decide)
    refine ⟨_, (pss_cons (ps_set (i := 1) scLaw.nd rfl (.inr rfl) (pe_call OB hr1 (by rfl) B.m B.F.kp B.b .nil pass0 (pa_cons (pv 0) pa_nil)))
      (pss_cons (ps_set (i := 2) scLaw.nd rfl (.inl rfl) (pe_call0 OE hr1 (by rfl) Ed.m Ed.F.kp Ed.b .nil pass0))
      (pss_cons (ps_for PassesOwn.never rfl (pi_range1 (by rfl) mr (pa_cons pe_int pa_nil)) (pg_name (i := 3) scLaw.nd rfl (.inl rfl)) (pss_cons (ps_set (i := 4) scLaw.nd rfl (.inl rfl) (pe_call OG hr4 (by rfl) G.m G.F.kp G.b .nil pass0 (pa_cons (pv 1) (pa_cons pe_int pa_nil))))
      (pss_cons (ps_setLc (i := 5) (own := [("_law_entry", 11)]) (g := gName 11) (by rfl) scLaw.nd rfl rfl (sw_true rfl rfl rfl (by decide +kernel)) (pi_tup (pe_ix ix_tup (pv 4) pe_int (fun _ _ => rfl))) (blkOk_by (own := [("_law_entry", 11)]) (N := nLaw) (sc := defScope (topS 35)) (by decide +kernel)) (fun _ _ _ _ _ => pg_name (i := 11) scLaw.nd rfl (Or.inl rfl)) (fun _ _ _ _ _ => pts_nil) (fun _ _ _ _ _ => (pe_tup (pa_cons (pe_ix (r := rIxT K) ix_tup (pv 11) pe_int (fun _ _ => rfl)) (pa_cons (pe_call OD hr1 (by rfl) D.m D.F.kp D.b .nil pass0 (pa_cons (pv 1) (pa_cons pe_int pa_nil))) pa_nil)))))
      (pss_cons (ps_set (i := 6) scLaw.nd rfl (.inl rfl) (pe_tup (pa_cons (pe_call OA hr2 (by rfl) A.m A.F.kp A.b .nil pass0 (pa_cons (pv 1) (pa_cons (pv 5) pa_nil))) (pa_cons (pe_call OA hr2 (by rfl) A.m A.F.kp A.b .nil pass0 (pa_cons (pv 1) (pa_cons (pv 5) pa_nil))) pa_nil))))
      (pss_cons (ps_set (i := 7) scLaw.nd rfl (.inl rfl) (pe_lst (pa_cons (pv 4) (pa_cons (pe_ix ix_tup (pv 4) pe_int (fun _ _ => rfl)) (pa_cons (pe_call OT hr2 (by rfl) A.m A.F.kp A.b .nil pass0 (pa_cons (pv 1) (pa_cons (pe_ix ix_tup (pv 4) pe_int (fun _ _ => rfl)) pa_nil))) (pa_cons (pe_ix ix_tup (pv 4) pe_int (fun _ _ => rfl)) (pa_cons (pv 6) (pa_cons (pe_ix ix_tup (pv 6) pe_int (fun _ _ => rfl)) (pa_cons (pe_op op_catA (pe_tup (pa_cons pe_str pa_nil)) (pv 6)) pa_nil)))))))))
      (pss_cons (ps_set (i := 7) scLaw.nd rfl (.inl rfl) (pe_op op_cat (pv 7) (pe_lst (pa_cons (pe_tup (pa_cons pe_str (pa_cons (pe_ix ix_tup (pv 4) pe_int (fun _ _ => rfl)) pa_nil))) (pa_cons (pe_tup (pa_cons pe_str (pa_cons (pe_call OA hr2 (by rfl) A.m A.F.kp A.b .nil pass0 (pa_cons (pv 1) (pa_cons (pe_lst (pa_cons pe_str (pa_cons pe_str pa_nil))) pa_nil))) pa_nil))) (pa_cons (pe_ix ix_tup (pe_ix ix_tup (pe_ix ix_tup (pv 4) pe_int (fun _ _ => rfl)) pe_int (fun _ _ => rfl)) pe_int (fun _ _ => rfl)) pa_nil))))))
      (pss_one (ps_for PassesOwn.never rfl (pi_list (pv 7)) (pg_name (i := 8) scLaw.nd rfl (.inl rfl)) (pss_cons (ps_set (i := 9) scLaw.nd rfl (.inl rfl) (pe_call ON hr (by rfl) N.m N.F.kp N.b .nil pass0 (pa_cons (pv 1) (pa_cons (pv 8) pa_nil))))
      (pss_one (ps_set (i := 2) scLaw.nd rfl (.inl rfl) (pe_op op_cat (pv 2) (pe_lst (pa_cons (pv 8) (pa_cons (pv 9) (pa_cons (pe_call ON hr (by rfl) N.m N.F.kp N.b .nil pass0 (pa_cons (pv 1) (pa_cons (pv 9) pa_nil))) pa_nil))))))))))))))))
      (pss_cons (ps_if (pt_cmpR (op_neD hr.units) (pe_lc (own := [("_law_item", 12)]) (g := gName 12) (by rfl) scLaw.nd (pi_list (pv 2)) (blkOk_by (own := [("_law_item", 12)]) (N := nLaw) (sc := defScope (topS 35)) (by decide +kernel)) (fun _ _ _ _ _ => pg_name (i := 12) scLaw.nd rfl (Or.inl rfl)) (fun _ _ _ _ _ => (pts_one (pt_not (pt_val (pe_vow OV hq hr6 (by rfl) R.m R.F.kp R.b (pa_cons (pv 12) pa_nil)))))) (fun _ _ _ _ _ => (pv 12))) (pe_lst pa_nil) (nomark _)) (pss_one (ps_ret pe_bl)) pss_nil)
      (pss_cons (ps_set (i := 10) scLaw.nd rfl (.inl rfl) (pe_lst (pa_cons (pe_kw1 Q1 hr1 (by rfl) P1.m P1.F.kp kP1 (pe_un un_neg pe_int)) (pa_cons (pe_kw1 Q2 hr2 (by rfl) P2.m P2.F.kp kP2 pe_int) (pa_cons (pe_kw1 Q3 hr1 (by rfl) P3.m P3.F.kp kP3 pe_str) (pa_cons (pe_kw1 Q4 hr2 (by rfl) P4.m P4.F.kp kP4 (pe_tup (pa_cons pe_str pa_nil))) pa_nil))))))
      (pss_cons (ps_set (i := 10) scLaw.nd rfl (.inl rfl) (pe_op op_cat (pv 10) (pe_lst (pa_cons (pe_kw1 Q5 hr3 (by rfl) P5.m P5.F.kp kP5 (pe_tup (pa_cons pe_str (pa_cons pe_int (pa_cons pe_bl (pa_cons (pe_tup pa_nil) pa_nil)))))) (pa_cons (pe_kw1 Q6 hr5 (by rfl) P6.m P6.F.kp kP6 (pe_tup (pa_cons (pe_tup (pa_cons (pe_tup (pa_cons pe_str (pa_cons pe_int (pa_cons pe_bl (pa_cons (pe_tup pa_nil) pa_nil))))) pa_nil)) (pa_cons pe_str pa_nil)))) pa_nil)))))
      (pss_cons (ps_set (i := 10) scLaw.nd rfl (.inl rfl) (pe_op op_cat (pv 10) (pe_lst (pa_cons (pe_kw1 Q7 hr3 (by rfl) P7.m P7.F.kp kP7 (pe_tup (pa_cons pe_str (pa_cons pe_int pa_nil)))) (pa_cons (pe_kw1 Q8 hr4 (by rfl) P8.m P8.F.kp kP8 (pe_tup (pa_cons (pe_tup (pa_cons pe_str (pa_cons pe_int pa_nil))) (pa_cons (pe_tup (pa_cons pe_str (pa_cons pe_int pa_nil))) pa_nil)))) (pa_cons (pe_kw1 Q9 hr5 (by rfl) P9.m P9.F.kp kP9 (pe_tup (pa_cons pe_str (pa_cons pe_str pa_nil)))) pa_nil))))))
      (pss_one (ps_ret (pe_cmpR op_eq (pe_callB (call_show hq hr.units) (by rfl) mp boot_repr (pa_cons (pv 10) pa_nil)) (pe_callB (call_show hq hr.units) (by rfl) mp boot_repr (pa_cons (pe_op op_rep (pe_lst (pa_cons pe_bl pa_nil)) pe_int) pa_nil)) (nomark _))))))))))), ?_⟩
    refine ⟨.ref a0, rfl, a0, ns0, rfl, hS, hl, fun f a ms H1 _ sm1 fd1 => ?_⟩
    refine ⟨rfl, fun L0 ws0 G0 s0 n0 d0 => ?_⟩
    have sL := same_new (o := .lst ws0) n0
    have kl0 : KL K (upd G0 L0 (.lst ws0)) L0 edgesD := ⟨ws0, upd_same, dsKeep sL d0⟩
    have fd2 := (fd1.same s0).same sL
    dsimp only [gName]
    generalize upd G0 L0 (.lst ws0) = J0 at kl0 fd2 ⊢
    refine ⟨2, rfl, by decide, by decide, for_range (lo := 0) (n := (2 : Int).toNat) (fun i σ J => ∃ L ds y3 y4 y5 y6 y7 y8 y9, σ = [some (.ref a0), some (.ref f), some (.ref L), y3, y4, y5, y6, y7, y8, y9, none, none, none] ∧ Fd f a ms J (2000 * i) ∧ KL K J L ds ∧ ds.length ≤ 200 + 40 * i ∧ ∀ d ∈ ds, Fine d)
      ⟨L0, edgesD, none, none, none, none, none, none, none, rfl, fd2.more (by omega), kl0, by decide +kernel, edges_fine⟩ ?_ ?_⟩
    · rintro i σ J hi ⟨L, ds0, y3, y4, y5, y6, y7, y8, y9, rfl, fdJ, klJ, lJ, fineJ⟩
      have hi : i < 2 := hi
      refine ⟨_, rfl, f, a, ms, _, 4, rfl, by decide, by decide, fdJ, by omega, fun v pg J1 pg1 ok1 nice1 asc1 own1 asks1 g0 g5 k1 fd1 => ?_⟩
      have kl1 := klJ.keep fdJ k1
      have small : Small pg := ⟨fun e he => ⟨nice1 e he, Nat.le_trans (own1 e he).2.length_le (by rw [List.length_map]; exact g5)⟩, asc1, asks1, g0, g5⟩
      obtain ⟨P1', P2', P3'⟩ := page_good small.tm small.asks
      have pgS : SmallD (dPg pg) := ⟨P1', P3', P2'⟩
      have enS : SmallD (.tuple (pg.es.map dEnt)) := ⟨small.tm.g, by have := small.tm.n; show 1 + nodesDs (pg.es.map dEnt) ≤ 235; omega, by have := small.tm.d; show PyData.depthAll (pg.es.map dEnt) + 1 ≤ 4; omega⟩
      have entS : ∀ d ∈ pg.es.map dEnt, SmallD d := by
        intro d hd
        obtain ⟨j, hj, e⟩ := List.getElem_of_mem hd
        obtain ⟨z1, z2, z3⟩ := small.tm.get (e ▸ List.getElem?_eq_getElem hj)
        exact ⟨z1, by omega, by omega⟩
      obtain ⟨p, qq, vs, rfl, hp, hq', hes⟩ := pg1
      have lvs : vs.length = pg.es.length := hes.len
      -- the stores
      refine ⟨.ref p, rfl, p, _, 0, .ref qq, rfl, rfl, hp, atI_nat (j := 0) rfl, qq, rfl, ⟨vs, hq'⟩, fun D nD => ?_⟩
      have ndf := fd1.free nD
      refine lc_tup (K := K) (a := qq) (xs := vs) (fun i' G => Keep f J1 G ∧ Fd f a ms G (2000 * i + 60 + i') ∧ ∃ ws, G D = some (.lst ws) ∧ ws.length = i' ∧ ∀ w ∈ ws, StAt K G w)
        ⟨keep_same (same_new nD), (fd1.same (same_new nD)), [], upd_same, rfl, fun w hw => by cases hw⟩ (fun i' G _ h => tupT (ts_fd fd1 h.1) hq') ?_ ?_
      · rintro j x G hx ⟨kG, fdG, ws, eD, lw, hw⟩
        have hj : j < vs.length := (List.getElem?_eq_some_iff.mp hx).1
        refine ⟨rfl, ?_⟩
        simp only [tYes, ↓reduceIte]
        obtain ⟨e, he, pe, pr, rfl, hpe, hpr⟩ := hes.get hx
        have hn : e.name ∈ names := (nice1 e (List.mem_of_getElem? he)).1
        refine ⟨.ref pe, rfl, pe, _, 0, .str e.name, rfl, rfl, tupT (ts_fd fd1 kG) hpe, atI_nat (j := 0) rfl, .ref f, rfl, f, a, ms, _, 12, rfl, by decide, by decide, fdG, by omega, fun r G2 r0 r1 k2 fd2 => ⟨(show 2 ≤ sizeLine by decide), fun t nt => ?_⟩⟩
        have eD2 := k2 _ _ (fd_ne fdG eD) eD
        have st := same_new (o := .tup [V.str e.name, V.int r]) nt
        have eD3 := st _ _ eD2
        refine ⟨ws, eD3, small' (by omega), keep_put ((kG.trans k2).trans (keep_same st)) nD, ((fd2.same st).own ndf.1 ndf.2).more (by omega), ws ++ [.ref t], upd_same, by rw [List.length_append, lw]; rfl, fun w hw' => ?_⟩
        rcases List.mem_append.mp hw' with h | h
        · exact (((hw w h).ts (ts_fd fdG k2)).ts (ts_same st)).ts (ts_lst eD3)
        · rw [List.mem_singleton.mp h]
          exact ⟨t, e.name, r, rfl, tupT (ts_lst eD3) (.inl (.inl upd_same)), hn, r0, r1⟩
      rintro G ⟨kG, fdG, ws, eD, lw, hw⟩
      have kl2 := kl1.keep fd1 kG
      have hpG := tupT (ts_fd fd1 kG) hp
      have hqG := tupT (ts_fd fd1 kG) hq'
      have hesG := hes.ts (ts_fd fd1 kG)
      dsimp only [gName]
      -- the letter
      refine ⟨.ref f, rfl, .ref D, rfl, f, a, D, ms, _, ws, rfl, fdG, by omega, .inl (.inl eD), by omega, by omega, fun x1 G1 hx1 k2 fd2 => ?_⟩
      have eD1 := k2 _ _ (fd_ne fdG eD) eD
      refine ⟨.ref f, rfl, .ref D, rfl, f, a, D, ms, _, ws, rfl, fd2, by omega, .inl (.inl eD1), by omega, by omega, fun x2 G2 hx2 k3 fd3 => ⟨(show 2 ≤ sizeLine by decide), fun lt nlt => ?_⟩⟩
      have slt := same_new (o := .tup [x1, x2]) nlt
      have k23 := (k2.trans k3).trans (keep_same (f := f) slt)
      have fd4 := fd3.same slt
      have t4 := ts_fd fdG k23
      have hx1' := ((hw x1 hx1).ts t4)
      have hx2' := ((hw x2 hx2).ts t4)
      have hlt : SqT K (upd G2 lt (.tup [x1, x2])) lt [x1, x2] := .inl (.inl upd_same)
      have kl3 := kl2.keep fdG k23
      have hp4 := tupT t4 hpG
      have hq4 := tupT t4 hqG
      have hes4 := hesG.ts t4
      clear hpG hqG hesG hw eD eD1 kG hes hp hq' hx1 hx2 k2 k3 k23 slt nlt t4 kl1 kl2
      dsimp only [gName]
      generalize upd G2 lt (.tup [x1, x2]) = G3 at fd4 hx1' hx2' hlt kl3 hp4 hq4 hes4 ⊢
      obtain ⟨n1, i1, n1m, i10, i11, dx1⟩ := hx1'.dp
      obtain ⟨n2, i2, n2m, i20, i21, dx2⟩ := hx2'.dp
      -- some
      refine ⟨.ref p, rfl, .ref p, rfl, p, _, 0, .ref qq, rfl, rfl, hp4, atI_nat (j := 0) rfl, .ref f, rfl, .ref p, rfl, p, _, 0, .ref qq, rfl, rfl, hp4, atI_nat (j := 0) rfl, f, a, qq, ms, _, vs, rfl, fd4, by omega, hq4, by omega, by omega, fun x3 G4 hx3 k5 fd5 => ?_⟩
      have t5 := ts_fd fd4 k5
      have hp5 := tupT t5 hp4
      have hlt5 := tupT t5 hlt
      refine ⟨.ref p, rfl, p, _, 1, .str pg.asks, rfl, rfl, hp5, atI_nat (j := 1) rfl, .ref lt, rfl, .ref lt, rfl, lt, _, 0, x1, rfl, rfl, hlt5, atI_nat (j := 0) rfl, (show 1 ≤ sizeLine by decide), fun tc ntc => ?_⟩
      have sc := same_new (o := .tup [V.str "came"]) ntc
      refine ⟨.ref lt, rfl, catA (ds := [.str "came"]) (es := [stD n1 i1, stD n2 i2]) (.tup (.inl (.inl upd_same)) (.cons (.str _) .nil)) (.tup (tupS sc hlt5) (.cons (dKeep sc (dFd fd4 k5 dx1)) (.cons (dKeep sc (dFd fd4 k5 dx2)) .nil))) (show 1 + 2 ≤ 1000 by decide) fun r' G5 s5 d5 => ⟨(show 7 ≤ sizeLine by decide), fun S1 nS1 => ?_⟩⟩
      have sS1 := same_new (o := .lst [.ref p, .ref qq, x3, .str pg.asks, .ref lt, x1, r']) nS1
      have k6 := k5.trans (keep_same (f := f) ((sc.trans s5).trans sS1))
      have fd6 := fd5.same ((sc.trans s5).trans sS1)
      have d6 := dKeep sS1 d5
      have eS1 : (upd G5 S1 (.lst [.ref p, .ref qq, x3, .str pg.asks, .ref lt, x1, r'])) S1 = some (.lst [.ref p, .ref qq, x3, .str pg.asks, .ref lt, x1, r']) := upd_same
      clear hp5 hlt5 t5 k5 fd5 d5 sc s5 sS1 nS1 ntc
      dsimp only [gName]
      generalize upd G5 S1 (.lst [.ref p, .ref qq, x3, .str pg.asks, .ref lt, x1, r']) = G6 at k6 fd6 d6 eS1 ⊢
      have t6 := ts_fd fd4 k6
      have hp6 := tupT t6 hp4
      refine ⟨.ref S1, rfl, .ref p, rfl, p, _, 1, .str pg.asks, rfl, rfl, hp6, atI_nat (j := 1) rfl, (show 2 ≤ sizeLine by decide), fun tn ntn => ?_⟩
      have sn := same_new (o := .tup [V.str "note", V.str pg.asks]) ntn
      have fd7 := fd6.same sn
      refine ⟨.ref f, rfl, (show 2 ≤ sizeLine by decide), fun oo noo => ?_⟩
      have so := same_new (o := .lst [V.str "on", V.str "off"]) noo
      refine ⟨f, a, oo, ms, _, [.str "on", .str "off"], rfl, fd7.same so, by omega, .inl (.inl upd_same), (show 0 < 2 by decide), (show 2 ≤ 1000 by decide), fun x4 G8 hx4 k8 fd8 => ⟨(show 2 ≤ sizeLine by decide), fun tg ntg => ?_⟩⟩
      have sg := same_new (o := .tup [V.str "guard", x4]) ntg
      have kn : Keep f G6 (upd G8 tg (.tup [V.str "guard", x4])) := ((keep_same (sn.trans so)).trans k8).trans (keep_same sg)
      have tt8 := ts_fd fd6 kn
      obtain ⟨e0, es', hes0⟩ : ∃ e0 es', pg.es = e0 :: es' := by
        cases z : pg.es with
        | nil => rw [z] at g0; exact absurd g0 (by decide)
        | cons a b => exact ⟨a, b, rfl⟩
      obtain ⟨v0, hv0⟩ : ∃ v0, vs[0]? = some v0 := ⟨vs[0]'(by omega), List.getElem?_eq_getElem _⟩
      obtain ⟨e0', he0, pe, pr, rfl, hpe, hpr⟩ := hes4.get hv0
      obtain rfl : e0' = e0 := by rw [hes0] at he0; exact (Option.some.inj he0).symm
      have e0m : e0' ∈ pg.es := List.mem_of_getElem? he0
      refine ⟨.ref p, rfl, p, _, 0, .ref qq, rfl, rfl, tupT tt8 hp6, atI_nat (j := 0) rfl, qq, vs, 0, .ref pe, rfl, rfl, tupT tt8 (tupT t6 hq4), atI_nat (j := 0) hv0, pe, _, 3, .ref pr, rfl, rfl, tupT tt8 (tupT t6 hpe), atI_nat (j := 3) rfl, (show 3 ≤ sizeLine by decide), fun S2 nS2 => ?_⟩
      have sS2 := same_new (o := .lst [.ref tn, .ref tg, .ref pr]) nS2
      refine ⟨S1, S2, _, _, rfl, rfl, sS2 _ _ (kn _ _ (fd_ne fd6 eS1) eS1), upd_same, (show 7 + 3 ≤ sizeLine by decide), fun S3 nS3 => ?_⟩
      have sS3 := same_new (o := .lst ([.ref p, .ref qq, x3, .str pg.asks, .ref lt, x1, r'] ++ [.ref tn, .ref tg, .ref pr])) nS3
      have kN := kn.trans (keep_same (f := f) (sS2.trans sS3))
      have fdN := (fd8.same sg).same (sS2.trans sS3)
      have sms : ∃ sds : List PyData, DpAll K (upd (upd (upd G8 tg (.tup [V.str "guard", x4])) S2 (.lst [.ref tn, .ref tg, .ref pr])) S3 (.lst ([.ref p, .ref qq, x3, .str pg.asks, .ref lt, x1, r'] ++ [.ref tn, .ref tg, .ref pr]))) ([.ref p, .ref qq, x3, .str pg.asks, .ref lt, x1, r'] ++ [.ref tn, .ref tg, .ref pr]) sds ∧ sds.length = 10 ∧ ∀ d ∈ sds, SmallD d := by
        have kk := k6.trans kN
        obtain ⟨d3, hd3, dp3⟩ := dp_in hes4.dp x3 hx3
        obtain ⟨xo, rfl, hxo⟩ : ∃ xo, x4 = .str xo ∧ xo ∈ onoff := by
          simp only [List.mem_cons, List.not_mem_nil, or_false] at hx4
          rcases hx4 with rfl | rfl
          · exact ⟨_, rfl, by decide⟩
          · exact ⟨_, rfl, by decide⟩
        have c1 := dFd fd4 kk (show Dp K G3 (.ref p) (dPg pg) from .tup hp4 (.cons (.tup hq4 hes4.dp) (.cons (.str _) .nil)))
        have c2 := dFd fd4 kk (show Dp K G3 (.ref qq) (.tuple (pg.es.map dEnt)) from .tup hq4 hes4.dp)
        have c5 := dFd fd4 kk (show Dp K G3 (.ref lt) (.tuple [stD n1 i1, stD n2 i2]) from .tup hlt (.cons dx1 (.cons dx2 .nil)))
        have c7 := dFd fd6 kN d6
        have c8 := (so.trans (show Same _ _ from fun _ _ z => z))
        have aN : Dp K (upd G6 tn (.tup [V.str "note", V.str pg.asks])) (.ref tn) (.tuple [.str "note", .str pg.asks]) := .tup (.inl (.inl upd_same)) (.cons (.str _) (.cons (.str _) .nil))
        have kk8 : Keep f (upd G6 tn (.tup [V.str "note", V.str pg.asks])) _ := (((keep_same so).trans k8).trans (keep_same sg)).trans (keep_same (f := f) (sS2.trans sS3))
        have aG : Dp K (upd G8 tg (.tup [V.str "guard", V.str xo])) (.ref tg) (.tuple [.str "guard", .str xo]) := .tup (.inl (.inl upd_same)) (.cons (.str _) (.cons (.str _) .nil))
        refine ⟨[dPg pg, .tuple (pg.es.map dEnt), d3, .str pg.asks, .tuple [stD n1 i1, stD n2 i2], stD n1 i1, .tuple ([PyData.str "came"] ++ [stD n1 i1, stD n2 i2]), .tuple [.str "note", .str pg.asks], .tuple [.str "guard", .str xo], .tuple (e0'.row.map PyData.str)],
          .cons c1 (.cons c2 (.cons (dFd fd4 kk dp3) (.cons (.str _) (.cons c5 (.cons (dFd fd4 kk dx1) (.cons c7 (.cons (dFd fd7 kk8 aN) (.cons (dKeep (sS2.trans sS3) aG) (.cons (dFd fd4 kk (.tup hpr (dp_strs e0'.row))) .nil))))))))), rfl, ?_⟩
        intro d hd
        simp only [List.mem_cons, List.not_mem_nil, or_false] at hd
        have g1 := st_good n1m i10 i11
        have g2 := st_good n2m i20 i21
        rcases hd with rfl | rfl | rfl | rfl | rfl | rfl | rfl | rfl | rfl | rfl
        · exact pgS
        · exact enS
        · exact entS _ hd3
        · exact small_str asks1
        · exact let_small g1 g2
        · exact st_small n1m i10 i11
        · exact came_small g1 g2
        · exact note_small asks1
        · exact guard_small hxo
        · exact row_small (nice1 _ e0m) (small.nice _ e0m).2
      obtain ⟨sds, hsd, lsd, smd⟩ := sms
      have klN := kl3.keep fd4 (k6.trans kN)
      have eS3 : (upd (upd (upd G8 tg (.tup [V.str "guard", x4])) S2 (.lst [.ref tn, .ref tg, .ref pr])) S3 (.lst ([.ref p, .ref qq, x3, .str pg.asks, .ref lt, x1, r'] ++ [.ref tn, .ref tg, .ref pr]))) S3 = some (.lst ([.ref p, .ref qq, x3, .str pg.asks, .ref lt, x1, r'] ++ [.ref tn, .ref tg, .ref pr])) := upd_same
      have lsx := dsLen hsd
      dsimp only [gName]
      clear sS2 sS3 nS2 nS3 kn tt8 sg ntg k8 fd8 so noo sn ntn t6 hp6 hp4 hq4 hes4 hlt hx1' hx2' dx1 dx2 kN kl3 d6 k6 fd7 hpe hpr
      generalize upd (upd (upd G8 tg (.tup [V.str "guard", x4])) S2 (.lst [.ref tn, .ref tg, .ref pr])) S3 (.lst ([.ref p, .ref qq, x3, .str pg.asks, .ref lt, x1, r'] ++ [.ref tn, .ref tg, .ref pr])) = G9 at fdN hsd klN eS3 ⊢
      generalize [.ref p, .ref qq, x3, .str pg.asks, .ref lt, x1, r'] ++ [.ref tn, .ref tg, .ref pr] = xs9 at hsd eS3 lsx ⊢
      -- the items
      refine ⟨.ref S3, rfl, S3, rfl, ⟨_, .inl (.inl eS3)⟩, ?_⟩
      refine for_list (K := K) (a := S3) (xs := xs9) (fun j σ X => ∃ L ds y8 y9, σ = [some (.ref a0), some (.ref f), some (.ref L), some (.int (0 + (i : Nat))), some (.ref p), some (.ref D), some (.ref lt), some (.ref S3), y8, y9, none, none, none] ∧ Keep f G9 X ∧ Fd f a ms X (2000 * i + 100 + 180 * j) ∧ KL K X L ds ∧ ds.length ≤ 200 + 40 * i + 3 * j ∧ ∀ d ∈ ds, Fine d)
        ⟨L, ds0, y8, y9, rfl, Keep.refl f G9, fdN.more (by omega), klN, by omega, fineJ⟩ ?_ ?_ ?_
      · rintro j σ X _ ⟨_, _, _, _, _, kX, _⟩
        exact .inl (.inl (kX _ _ (fd_ne fdN eS3) eS3))
      · rintro j x σ X hx ⟨L', ds1, z8, z9, rfl, kX, fdX, klX, lX, fX⟩
        have hj : j < xs9.length := (List.getElem?_eq_some_iff.mp hx).1
        obtain ⟨d, hd, dp⟩ := dsAt hsd j x hx
        have sd := smd d (List.mem_of_getElem? hd)
        have sdn := sd.n
        have sdd := sd.d
        have dpX := dFd fdN kX dp
        refine ⟨.ref f, rfl, x, rfl, f, a, ms, _, x, d, rfl, fdX, by omega, dpX, sd.g, by omega, by omega, by decide, fun r1 d1 X1 dp1 gg1 m1 h1 q1 fx1 => ?_⟩
        have kl1 := klX.keep fdX q1
        have dpx1 := dFd fdX q1 dpX
        refine ⟨.ref L', rfl, x, rfl, r1, rfl, .ref f, rfl, r1, rfl, f, a, ms, _, r1, d1, rfl, fx1, by omega, dp1, gg1, by omega, by omega, by decide, fun r2 d2 X2 dp2 gg2 m2 h2 q2 fx2 => ⟨(show 3 ≤ sizeLine by decide), fun R nR => ?_⟩⟩
        have kl2 := kl1.keep fx1 q2
        have sR := same_new (o := .lst [x, r1, r2]) nR
        obtain ⟨xs', eL, dL⟩ := kl2.ex
        have lxs := dsLen dL
        refine ⟨L', R, xs', [x, r1, r2], rfl, rfl, sR _ _ eL, upd_same, Nat.le_trans (show xs'.length + 3 ≤ 400 by omega) (by decide), fun O nO => ?_⟩
        have sO := same_new (o := .lst (xs' ++ [x, r1, r2])) nO
        have sRO := sR.trans sO
        have dA := dKeep sRO (dFd fx1 q2 dpx1)
        have dB := dKeep sRO (dFd fx1 q2 dp1)
        have dC := dKeep sRO dp2
        refine ⟨O, ds1 ++ [d, d1, d2], _, _, rfl, ((kX.trans q1).trans q2).trans (keep_same sRO), (fx2.same sRO).more (by omega), ⟨_, upd_same, dsApp (dsKeep sRO dL) (.cons dA (.cons dB (.cons dC .nil)))⟩, by rw [List.length_append]; show _ + 3 ≤ _; omega, fun z hz => ?_⟩
        rcases List.mem_append.mp hz with hz | hz
        · exact fX z hz
        · simp only [List.mem_cons, List.not_mem_nil, or_false] at hz
          rcases hz with rfl | rfl | rfl
          · exact sd.fine
          · exact ⟨gg1, by omega, by omega⟩
          · exact ⟨gg2, by omega, by omega⟩
      · rintro σ X ⟨L', ds1, z8, z9, rfl, kX, fdX, klX, lX, fX⟩
        have l9 : xs9.length = 10 := by omega
        rw [l9] at fdX lX
        exact ⟨L', ds1, _, _, _, _, _, _, _, rfl, fdX.more (by omega), klX, by omega, fX⟩
    · rintro σ J ⟨L, ds, y3, y4, y5, y6, y7, y8, y9, rfl, fdJ, klJ, lJ, fineJ⟩
      obtain ⟨xs, eL, dL⟩ := klJ.ex
      refine ⟨.ref L, rfl, L, rfl, ⟨_, .inl (.inl eL)⟩, fun D2 nD2 => ?_⟩
      refine lc_list (K := K) (a := L) (xs := xs) (fun j Y => Same J Y ∧ Y D2 = some (.lst [])) ⟨same_new nD2, upd_same⟩ (fun j Y _ h => .inl (.inl (h.1 _ _ eL))) ?_ ?_
      · rintro j x Y hx ⟨sY, eD2⟩
        obtain ⟨d, hd, dp⟩ := dsAt dL j x hx
        refine ⟨rfl, ?_⟩
        refine ⟨x, rfl, x, d, rfl, dKeep sY dp, fineJ d (List.mem_of_getElem? hd), fun X' s' => ⟨true, rfl, ?_⟩⟩
        exact iteF ⟨sY.trans s', s' _ _ eD2⟩
      · rintro Y ⟨sY, eD2⟩
        refine ⟨Nat.zero_le _, fun z2 nz2 => ⟨.list [], .list [], .lst (.inl (.inl (same_new nz2 _ _ eD2))) .nil, .lst (.inl (.inl upd_same)) .nil, rfl, rfl, _, rfl, ?_⟩⟩
        refine iteF ?_
        dsimp only [tNext]
        generalize upd Y z2 (.lst []) = W0
        refine seq_asg (lx_lst (K := K) (H0 := W0) (ds := kt1) (ax_cons (dx_kB (f := intB) de_neg) (ax_cons (dx_kB (f := natB) de_int) (ax_cons (dx_kG (f := nameB) de_str (kd_nice _ (by simp))) (ax_cons (dx_kG (f := rowB) (de_tup (da_cons de_str da_nil) (show 1 ≤ 1000 by decide)) (kd_nice _ (by simp))) ax_nil)))) (show 4 ≤ 1000 by decide) (Same.refl _) fun l0 vs0 G0 s0 n0 e0 d0 => ?_)
        dsimp only [gName]
        refine seq_asg (lx_grow (K := K) (H0 := W0) (ds := kt1) (es := kt2) e0 d0 s0 (fun R r => ⟨_, rfl, r⟩) (ax_cons (dx_kG (f := kindB) (de_tup (da_cons de_str (da_cons de_int (da_cons de_bl (da_cons (de_tup da_nil (show 0 ≤ 1000 by decide)) da_nil)))) (show 4 ≤ 1000 by decide)) (kd_nice _ (by simp))) (ax_cons (dx_kG (f := fun d => (faultOf d).isNone) (de_tup (da_cons (de_tup (da_cons (de_tup (da_cons de_str (da_cons de_int (da_cons de_bl (da_cons (de_tup da_nil (show 0 ≤ 1000 by decide)) da_nil)))) (show 4 ≤ 1000 by decide)) da_nil) (show 1 ≤ 1000 by decide)) (da_cons de_str da_nil)) (show 2 ≤ 1000 by decide)) (kd_nice _ (by simp))) ax_nil)) (show 4 + 2 ≤ 1000 by decide) fun l1 ws1 G1 t1 n1 dd1 => ?_)
        dsimp only [gName]
        have sn1 := same_new (o := .lst ws1) n1
        have S1 := s0.trans (t1.trans sn1)
        refine seq_asg (lx_grow (K := K) (H0 := W0) (ds := kt1 ++ kt2) (es := kt3) upd_same (dsKeep sn1 dd1) S1 (fun R r => ⟨_, rfl, r⟩) (ax_cons (dx_kG (f := storeB) (de_tup (da_cons de_str (da_cons de_int da_nil)) (show 2 ≤ 1000 by decide)) (kd_nice _ (by simp))) (ax_cons (dx_kG (f := letterB) (de_tup (da_cons (de_tup (da_cons de_str (da_cons de_int da_nil)) (show 2 ≤ 1000 by decide)) (da_cons (de_tup (da_cons de_str (da_cons de_int da_nil)) (show 2 ≤ 1000 by decide)) da_nil)) (show 2 ≤ 1000 by decide)) (kd_nice _ (by simp))) (ax_cons (dx_kG (f := eventB) (de_tup (da_cons de_str (da_cons de_str da_nil)) (show 2 ≤ 1000 by decide)) (kd_nice _ (by simp))) ax_nil))) (show 6 + 3 ≤ 1000 by decide) fun l2 ws2 G2 t2 n2 dd2 => ?_)
        dsimp only [gName]
        have sn2 := same_new (o := .lst ws2) n2
        have sh : Sh 20 16777216 (.list (List.replicate 9 [PyData.bool true]).flatten) := (sh_list (k := 0) (B := 5) (n := 9) (fun x hx => by
          have e : x = .bool true := by
            have : (List.replicate 9 [PyData.bool true]).flatten = List.replicate 9 (.bool true) := rfl
            rw [this] at hx
            exact (List.mem_replicate.mp hx).2
          rw [e]
          exact sh_bool _) (by decide)).mono (by decide) (by decide)
        rw [kt_eq] at dd2
        refine ⟨.ref l2, rfl, l2, .list (List.replicate 9 [PyData.bool true]).flatten, rfl, .lst (.inl (.inl upd_same)) (dsKeep sn2 dd2), sh.ok, sh.nd, sh.dp, Nat.le_trans sh.ln size16, (show 1 ≤ sizeLine by decide), fun p1 np1 => ?_⟩
        refine ⟨p1, 9, [.bl true], rfl, rfl, upd_same, by decide, by decide, (show 1 * 9 ≤ sizeLine by decide), fun p2 np2 => ?_⟩
        refine ⟨p2, .list (List.replicate 9 [PyData.bool true]).flatten, rfl, .lst (.inl (.inl upd_same)) ?_, sh.ok, sh.nd, sh.dp, Nat.le_trans sh.ln size16, rfl, ?_⟩
        · exact .cons (.bl _) (.cons (.bl _) (.cons (.bl _) (.cons (.bl _) (.cons (.bl _) (.cons (.bl _) (.cons (.bl _) (.cons (.bl _) (.cons (.bl _) .nil))))))))
        · rw [decide_eq_true rfl]
          exact q _
end
end Kn


namespace Kn
open PySem PySem.Spec PyProof.Rows L2
/-! ### what the top has written -/
def At (K : PySem.W.Frag) (x : Str) (i : Nat) : Prop := ∃ (f : Addr) (oc : Value) (od an : Option Addr) (sl : Array (Option Value)) (kV dc pm cd ct : Value),
  PySem.W.nsIn K mainGlobals x = some (some (.ref f)) ∧ K.lookup f = some ⟨oc, od, .func (PySem.W.fnOf x x (defArgs (topS i)) (defBody (topS i)) (defScope (topS i)) .none kV dc pm an cd ct), sl⟩ ∧ PySem.W.codeIn K cd x = true ∧ PySem.W.keepIn K (.ref f) = true
theorem at_mk {K : PySem.W.Frag} {x : Str} {i : Nat} {f : Addr} {oc kV dc pm cd ct : Value} {od an : Option Addr} {sl : Array (Option Value)} (a : PySem.W.nsIn K mainGlobals x = some (some (.ref f)))
    (l : K.lookup f = some ⟨oc, od, .func (PySem.W.fnOf x x (defArgs (topS i)) (defBody (topS i)) (defScope (topS i)) .none kV dc pm an cd ct), sl⟩) (c : PySem.W.codeIn K cd x = true) (k : PySem.W.keepIn K (.ref f) = true) : At K x i :=
  ⟨f, oc, od, an, sl, kV, dc, pm, cd, ct, a, l, c, k⟩
section
variable {K : PySem.W.Frag} {mg : Str → Option Value} {h : Heap} {x y : Str} {i : Nat} {ps : List Str}
theorem def_of (X : K.In h) (G : h.Ns mainGlobals mg) (t : At K x i)
    (b : ∀ (kV doc pm : Value) (an : Option Addr) (cdv ct : Value) (us : List Value), us.length = ps.length → bindArgs (PySem.W.fnOf x x (defArgs (topS i)) (defBody (topS i)) (defScope (topS i)) .none kV doc pm an cdv ct) ⟨us, []⟩ = pure (ps.zip us)) :
    ∃ f fd, Def K mg x i ps f fd := by
  obtain ⟨f, oc, od, an, sl, kV, dc, pm, cd, ct, a, l, c, k⟩ := t
  have F := fun_mk (st := topS i) l c k
  exact ⟨f, _, F, F.binds b, PySem.W.mg_of X G a⟩
theorem def_of1 (X : K.In h) (G : h.Ns mainGlobals mg) (t : At K x i)
    (b : ∀ (kV doc pm : Value) (an : Option Addr) (cdv ct : Value) (us : List Value), us.length = [y].length → bindArgs (PySem.W.fnOf x x (defArgs (topS i)) (defBody (topS i)) (defScope (topS i)) .none kV doc pm an cdv ct) ⟨us, []⟩ = pure ([y].zip us))
    (b1 : ∀ (kV doc pm : Value) (an : Option Addr) (cdv ct u : Value), bindArgs (PySem.W.fnOf x x (defArgs (topS i)) (defBody (topS i)) (defScope (topS i)) .none kV doc pm an cdv ct) ⟨[], [(y, u)]⟩ = pure [(y, u)]) :
    ∃ f fd, Def K mg x i [y] f fd ∧ ∀ (s : Shared) (u : Value), BindsTo s fd ⟨[], [(y, u)]⟩ [(y, u)] := by
  obtain ⟨f, oc, od, an, sl, kV, dc, pm, cd, ct, a, l, c, k⟩ := t
  have F := fun_mk (st := topS i) l c k
  exact ⟨f, _, ⟨F, F.binds b, PySem.W.mg_of X G a⟩, fun s u => .of_eq (b1 _ _ _ _ _ _ u)⟩
theorem all_mk {l : PySem.W.OpenLaw} {w : World} {fa : Addr} (X : K.In h) (G : h.Ns mainGlobals mg) (hfa : mg "law" = some (.ref fa))
    (t1 : At K "is_pair" 1) (t3 : At K "is_integer" 3) (t4 : At K "is_number" 4) (t5 : At K "is_positive" 5) (t6 : At K "is_name" 6) (t7 : At K "is_table" 7) (t8 : At K "is_kind" 8) (t9 : At K "wrong_kind" 9) (t10 : At K "wrong_table" 10) (t11 : At K "is_asker" 11) (t12 : At K "is_web" 12) (t13 : At K "is_store" 13) (t14 : At K "is_letter" 14) (t15 : At K "is_guard" 15) (t16 : At K "is_event" 16) (t18 : At K "_law_start" 18) (t19 : At K "_law_draw" 19) (t20 : At K "_law_any" 20) (t21 : At K "_law_labels" 21) (t22 : At K "_law_page" 22) (t23 : At K "_law_strange" 23) (t24 : At K "_law_bent" 24) (t25 : At K "_law_is_whole" 25) (t26 : At K "_law_is_label" 26) (t27 : At K "_law_is_row" 27) (t28 : At K "_law_is_entry" 28) (t29 : At K "_law_fault" 29) (t30 : At K "_law_is_store" 30) (t31 : At K "_law_is_letter" 31) (t32 : At K "_law_is_event" 32) (t33 : At K "_law_is_right" 33) (t34 : At K "_law_edges" 34) (t35 : At K "law" 35) 
    (z1 : PySem.W.nsIn K mainGlobals "len" = some none) (z2 : PySem.W.nsIn K mainGlobals "int" = some none) (z3 : PySem.W.nsIn K mainGlobals "range" = some none) (z4 : PySem.W.nsIn K mainGlobals "sorted" = some none) (z5 : PySem.W.nsIn K mainGlobals "tuple" = some none) (z6 : PySem.W.nsIn K mainGlobals "isinstance" = some none) (z7 : PySem.W.nsIn K mainGlobals "repr" = some none) (z8 : PySem.W.nsIn K mainGlobals "bool" = some none) (z9 : PySem.W.nsIn K mainGlobals "str" = some none) (z10 : PySem.W.nsIn K mainGlobals "all" = some none) (z11 : PySem.W.nsIn K mainGlobals "list" = some none) (z12 : PySem.W.nsIn K mainGlobals "any" = some none) (z13 : PySem.W.nsIn K mainGlobals "enumerate" = some none) :
    ∃ fd : FuncData, (∀ (s : Shared) (v : Value), BindsTo s fd ⟨[v], []⟩ [("_law_script", v)]) ∧ ∀ base : Heap, K.In base → base.Ns mainGlobals mg → Vow l.prog w K mg base 13 fa fd ["_law_script"] (spLaw K) := by
  obtain ⟨f1, d1, D1⟩ := def_of (mg := mg) (ps := ["thing"]) X G t1 (fun _ _ _ _ _ _ us hl => match us, hl with | [_], _ => rfl)
  obtain ⟨f3, d3, D3, k3⟩ := def_of1 (mg := mg) (y := "thing") X G t3 (fun _ _ _ _ _ _ us hl => match us, hl with | [_], _ => rfl) (fun _ _ _ _ _ _ _ => rfl)
  obtain ⟨f4, d4, D4, k4⟩ := def_of1 (mg := mg) (y := "thing") X G t4 (fun _ _ _ _ _ _ us hl => match us, hl with | [_], _ => rfl) (fun _ _ _ _ _ _ _ => rfl)
  obtain ⟨f5, d5, D5⟩ := def_of (mg := mg) (ps := ["thing"]) X G t5 (fun _ _ _ _ _ _ us hl => match us, hl with | [_], _ => rfl)
  obtain ⟨f6, d6, D6, k6⟩ := def_of1 (mg := mg) (y := "thing") X G t6 (fun _ _ _ _ _ _ us hl => match us, hl with | [_], _ => rfl) (fun _ _ _ _ _ _ _ => rfl)
  obtain ⟨f7, d7, D7, k7⟩ := def_of1 (mg := mg) (y := "thing") X G t7 (fun _ _ _ _ _ _ us hl => match us, hl with | [_], _ => rfl) (fun _ _ _ _ _ _ _ => rfl)
  obtain ⟨f8, d8, D8, k8⟩ := def_of1 (mg := mg) (y := "thing") X G t8 (fun _ _ _ _ _ _ us hl => match us, hl with | [_], _ => rfl) (fun _ _ _ _ _ _ _ => rfl)
  obtain ⟨f9, d9, D9⟩ := def_of (mg := mg) (ps := ["kinds"]) X G t9 (fun _ _ _ _ _ _ us hl => match us, hl with | [_], _ => rfl)
  obtain ⟨f10, d10, D10⟩ := def_of (mg := mg) (ps := ["kinds"]) X G t10 (fun _ _ _ _ _ _ us hl => match us, hl with | [_], _ => rfl)
  obtain ⟨f11, d11, D11⟩ := def_of (mg := mg) (ps := ["kinds", "thing"]) X G t11 (fun _ _ _ _ _ _ us hl => match us, hl with | [_, _], _ => rfl)
  obtain ⟨f12, d12, D12, k12⟩ := def_of1 (mg := mg) (y := "thing") X G t12 (fun _ _ _ _ _ _ us hl => match us, hl with | [_], _ => rfl) (fun _ _ _ _ _ _ _ => rfl)
  obtain ⟨f13, d13, D13, k13⟩ := def_of1 (mg := mg) (y := "thing") X G t13 (fun _ _ _ _ _ _ us hl => match us, hl with | [_], _ => rfl) (fun _ _ _ _ _ _ _ => rfl)
  obtain ⟨f14, d14, D14, k14⟩ := def_of1 (mg := mg) (y := "thing") X G t14 (fun _ _ _ _ _ _ us hl => match us, hl with | [_], _ => rfl) (fun _ _ _ _ _ _ _ => rfl)
  obtain ⟨f15, d15, D15⟩ := def_of (mg := mg) (ps := ["thing"]) X G t15 (fun _ _ _ _ _ _ us hl => match us, hl with | [_], _ => rfl)
  obtain ⟨f16, d16, D16, k16⟩ := def_of1 (mg := mg) (y := "thing") X G t16 (fun _ _ _ _ _ _ us hl => match us, hl with | [_], _ => rfl) (fun _ _ _ _ _ _ _ => rfl)
  obtain ⟨f18, d18, D18⟩ := def_of (mg := mg) (ps := ["_law_script"]) X G t18 (fun _ _ _ _ _ _ us hl => match us, hl with | [_], _ => rfl)
  obtain ⟨f19, d19, D19⟩ := def_of (mg := mg) (ps := ["_law_feed", "_law_many"]) X G t19 (fun _ _ _ _ _ _ us hl => match us, hl with | [_, _], _ => rfl)
  obtain ⟨f20, d20, D20⟩ := def_of (mg := mg) (ps := ["_law_feed", "_law_some"]) X G t20 (fun _ _ _ _ _ _ us hl => match us, hl with | [_, _], _ => rfl)
  obtain ⟨f21, d21, D21⟩ := def_of (mg := mg) (ps := ["_law_feed", "_law_many"]) X G t21 (fun _ _ _ _ _ _ us hl => match us, hl with | [_, _], _ => rfl)
  obtain ⟨f22, d22, D22⟩ := def_of (mg := mg) (ps := ["_law_feed", "_law_most"]) X G t22 (fun _ _ _ _ _ _ us hl => match us, hl with | [_, _], _ => rfl)
  obtain ⟨f23, d23, D23⟩ := def_of (mg := mg) (ps := ["_law_feed"]) X G t23 (fun _ _ _ _ _ _ us hl => match us, hl with | [_], _ => rfl)
  obtain ⟨f24, d24, D24⟩ := def_of (mg := mg) (ps := ["_law_feed", "_law_item"]) X G t24 (fun _ _ _ _ _ _ us hl => match us, hl with | [_, _], _ => rfl)
  obtain ⟨f25, d25, D25⟩ := def_of (mg := mg) (ps := ["_law_item"]) X G t25 (fun _ _ _ _ _ _ us hl => match us, hl with | [_], _ => rfl)
  obtain ⟨f26, d26, D26⟩ := def_of (mg := mg) (ps := ["_law_item"]) X G t26 (fun _ _ _ _ _ _ us hl => match us, hl with | [_], _ => rfl)
  obtain ⟨f27, d27, D27⟩ := def_of (mg := mg) (ps := ["_law_item"]) X G t27 (fun _ _ _ _ _ _ us hl => match us, hl with | [_], _ => rfl)
  obtain ⟨f28, d28, D28⟩ := def_of (mg := mg) (ps := ["_law_item"]) X G t28 (fun _ _ _ _ _ _ us hl => match us, hl with | [_], _ => rfl)
  obtain ⟨f29, d29, D29⟩ := def_of (mg := mg) (ps := ["_law_item"]) X G t29 (fun _ _ _ _ _ _ us hl => match us, hl with | [_], _ => rfl)
  obtain ⟨f30, d30, D30⟩ := def_of (mg := mg) (ps := ["_law_item"]) X G t30 (fun _ _ _ _ _ _ us hl => match us, hl with | [_], _ => rfl)
  obtain ⟨f31, d31, D31⟩ := def_of (mg := mg) (ps := ["_law_item"]) X G t31 (fun _ _ _ _ _ _ us hl => match us, hl with | [_], _ => rfl)
  obtain ⟨f32, d32, D32⟩ := def_of (mg := mg) (ps := ["_law_item"]) X G t32 (fun _ _ _ _ _ _ us hl => match us, hl with | [_], _ => rfl)
  obtain ⟨f33, d33, D33⟩ := def_of (mg := mg) (ps := ["_law_item"]) X G t33 (fun _ _ _ _ _ _ us hl => match us, hl with | [_], _ => rfl)
  obtain ⟨f34, d34, D34⟩ := def_of (mg := mg) (ps := []) X G t34 (fun _ _ _ _ _ _ us hl => match us, hl with | [], _ => rfl)
  have ml := PySem.W.mg_none_of X G z1
  have mi := PySem.W.mg_none_of X G z2
  have mr := PySem.W.mg_none_of X G z3
  have mo := PySem.W.mg_none_of X G z4
  have mt := PySem.W.mg_none_of X G z5
  have ms := PySem.W.mg_none_of X G z6
  have mp := PySem.W.mg_none_of X G z7
  have mb := PySem.W.mg_none_of X G z8
  have mz := PySem.W.mg_none_of X G z9
  have ma := PySem.W.mg_none_of X G z10
  have mli := PySem.W.mg_none_of X G z11
  have my := PySem.W.mg_none_of X G z12
  have me := PySem.W.mg_none_of X G z13
  obtain ⟨fL, oc, od, an, sl, kV, dc, pm, cd, ct, aL, lL, cL, kL⟩ := t35
  cases hfa.symm.trans (PySem.W.mg_of X G aL)
  have FL := fun_mk (st := topS 35) lL cL kL
  refine ⟨PySem.W.fnOf "law" "law" (defArgs (topS 35)) (defBody (topS 35)) (defScope (topS 35)) .none kV dc pm an cd ct, fun s v => .of_eq rfl, fun base _ _ => ?_⟩
  have O1 : FnOk l.prog w K mg base CX0 1 f1 d1 ["thing"] (spG K pairB) := ok_pair D1.F ms mt ml
  have O3 : FnOk l.prog w K mg base CX0 1 f3 d3 ["thing"] (spB K intB) := ok_integer D3.F ms mi mb
  have O4 : FnOk l.prog w K mg base CX0 2 f4 d4 ["thing"] (spB K natB) := ok_number D4.F D3 O3
  have O5 : FnOk l.prog w K mg base CX0 2 f5 d5 ["thing"] (spB K posB) := ok_positive D5.F D3 O3
  have O6 : FnOk l.prog w K mg base CX0 1 f6 d6 ["thing"] (spG K nameB) := ok_name D6.F ml ms mz
  have O7 : FnOk l.prog w K mg base CX0 2 f7 d7 ["thing"] (spG K rowB) := ok_tab D7.F D6 O6 ms mt me
  have O8 : FnOk l.prog w K mg base CX0 3 f8 d8 ["thing"] (spG K kindB) := ok_kind D8.F D6 O6 D5 O5 D7 O7 ms mt ml mb
  have O9 : FnOk l.prog w K mg base CX0 4 f9 d9 ["kinds"] (spWk K) := ok_wk D9.F D8 O8 me
  have O10 : FnOk l.prog w K mg base CX0 1 f10 d10 ["kinds"] (spWt K) := ok_wt D10.F me ma
  have O11 : FnOk l.prog w K mg base CX0 1 f11 d11 ["kinds", "thing"] (spAsk K) := ok_ask D11.F my
  have O12 : FnOk l.prog w K mg base CX0 5 f12 d12 ["thing"] (spG K fun d => (faultOf d).isNone) := ok_web D12.F D1 O1 D9 O9 D10 O10 D11 O11 ms mt
  have O13 : FnOk l.prog w K mg base CX0 3 f13 d13 ["thing"] (spG K storeB) := ok_store D13.F D1 O1 D6 O6 D4 O4
  have O14 : FnOk l.prog w K mg base CX0 4 f14 d14 ["thing"] (spG K letterB) := ok_letter D14.F D1 O1 D13 O13
  have O15 : FnOk l.prog w K mg base CX0 1 f15 d15 ["thing"] (spG K (hasT onoff)) := ok_guard D15.F ms mz
  have O16 : FnOk l.prog w K mg base CX0 5 f16 d16 ["thing"] (spG K eventB) := ok_event D16.F D14 O14 D15 O15 D6 O6 ms mt ml
  have O18 : FnOk l.prog w K mg base CX0 1 f18 d18 ["_law_script"] (spStart K) := ok_start D18.F
  have O19 : FnOk l.prog w K mg base CX0 1 f19 d19 ["_law_feed", "_law_many"] spDraw := ok_draw D19.F mi ml
  have O20 : FnOk l.prog w K mg base CX0 2 f20 d20 ["_law_feed", "_law_some"] (spAny K) := ok_any D20.F D19.F D19.b D19.m mi ml
  have OT : FnOk l.prog w K mg base CX0 2 f20 d20 ["_law_feed", "_law_some"] (spAnyT K) := ok_anyT D20.F D19.F D19.b D19.m mi ml
  have O22 : FnOk l.prog w K mg base CX0 4 f22 d22 ["_law_feed", "_law_most"] (spPg K) := ok_pg D22.F D21.F D21.b D21.m D20.F D20.b D20.m D19.F D19.b D19.m mi ml mr mo mt
  have O23 : FnOk l.prog w K mg base CX0 3 f23 d23 ["_law_feed"] (spStrange K) := ok_strange D23.F D20.F D20.b D20.m O20
  have O24 : FnOk l.prog w K mg base CX0 12 f24 d24 ["_law_feed", "_law_item"] (spBent K 8) := ok_bent D24.F D24.b D24.m D19.F D19.b D19.m O19 D20.F D20.b D20.m O20 D23.F D23.b D23.m O23 mi ml mt ms mz mli 8
  have O25 : FnOk l.prog w K mg base CX0 1 f25 d25 ["_law_item"] (spB K intB) := ok_whole D25.F ms mi mb
  have O26 : FnOk l.prog w K mg base CX0 1 f26 d26 ["_law_item"] (spG K nameB) := ok_label D26.F ml ms mz
  have O27 : FnOk l.prog w K mg base CX0 2 f27 d27 ["_law_item"] (spG K rowB) := ok_row D27.F D26 O26 ms mt ml mr
  have O28 : FnOk l.prog w K mg base CX0 3 f28 d28 ["_law_item"] (spG K kindB) := ok_entry D28.F D26 O26 D25 O25 D27 O27 ms mt ml mb
  have O29 : FnOk l.prog w K mg base CX0 4 f29 d29 ["_law_item"] (spFt K) := ok_ft D29.F D28 O28 ms mt ml me mz
  have O30 : FnOk l.prog w K mg base CX0 2 f30 d30 ["_law_item"] (spG K storeB) := ok_storeL D30.F D26 O26 D25 O25 ms mt ml
  have O31 : FnOk l.prog w K mg base CX0 3 f31 d31 ["_law_item"] (spG K letterB) := ok_letterL D31.F D30 O30 ms mt ml
  have O32 : FnOk l.prog w K mg base CX0 3 f32 d32 ["_law_item"] (spG K eventB) := ok_eventL D32.F D30 O30 D26 O26 ms mt ml mz
  have OV : Vow l.prog w K mg base 6 f33 d33 ["_law_item"] (spRt K) := ok_rt D33.F D3 O3 D4 O4 D6 O6 D7 O7 D8 O8 D12 O12 D13 O13 D14 O14 D16 O16 D25 O25 D26 O26 D27 O27 D28 O28 D29 O29 D30 O30 D31 O31 D32 O32 mp
  have O34 : FnOk l.prog w K mg base CX0 1 f34 d34 [] (spEd K) := ok_ed D34.F
  exact ok_law FL D18 O18 D34 O34 D22 O22 D19 O19 D20 O20 OT D24 O24 D33 OV D3 O3 k3 D4 O4 k4 D6 O6 k6 D7 O7 k7 D8 O8 k8 D12 O12 k12 D13 O13 k13 D14 O14 k14 D16 O16 k16 mr mp
end
end Kn


open PySem PySem.W PyProof.Rows
set_option maxHeartbeats 0 in
theorem PySem.Challenge.cw_firstletter_k01_values_of_each_form_holds : PySem.Challenge.rw_firstletter_k01_values_of_each_form.Holds := by
  w_on; o_law; k_head; (case hw => w_witness2)
  k_fill
  refine Kn.walk_vow (l := PySem.Challenge.rw_firstletter_k01_values_of_each_form) (k := 13) (x := "_law_script") (sp := Kn.spLaw) rfl rfl ⟨rfl, by decide, by decide⟩ (fun w h Y => PySem.W.kIn_of Y) ?F (fun _ _ a ns hl _ hS => ⟨a, ns, rfl, hS, hl, fun _ => rfl⟩)
  case F =>
    intro w mg fa h KX G hmg
    refine' Kn.all_mk KX G hmg ?t1 ?t3 ?t4 ?t5 ?t6 ?t7 ?t8 ?t9 ?t10 ?t11 ?t12 ?t13 ?t14 ?t15 ?t16 ?t18 ?t19 ?t20 ?t21 ?t22 ?t23 ?t24 ?t25 ?t26 ?t27 ?t28 ?t29 ?t30 ?t31 ?t32 ?t33 ?t34 ?t35 ?z1 ?z2 ?z3 ?z4 ?z5 ?z6 ?z7 ?z8 ?z9 ?z10 ?z11 ?z12 ?z13
    (case z1 => k_is); (case z2 => k_is); (case z3 => k_is); (case z4 => k_is); (case z5 => k_is); (case z6 => k_is); (case z7 => k_is); (case z8 => k_is); (case z9 => k_is); (case z10 => k_is); (case z11 => k_is); (case z12 => k_is); (case z13 => k_is)
    all_goals
      refine' Kn.at_mk ?a ?l ?c ?k
      (case a => k_is); (case l => k_is); (case c => k_is); (case k => k_is)
