import PyProof.Rows.All
import Wide.All
import OpenK.AllK
import Wide.FinOn
import HandS.ForMost
import HandS.Star
import HandS.FStr
import HandS.RaiseMore
import PyProof.ReprRoads
import PyProof.StrLawsRepr
import HandS.TupAny
import HandS.Walk
import PyProof.Draws
import KE.GoesMore
import PyProof.EnumMake
import HandS.Defaults
import HandS.NoneIn
import HandS.IsInst
import HandS.StrMore
import PyProof.ReprLen
import KE.KRevSl
import PySem.Challenge.RW_firstletter_k12_whole_texts_there_and_ba
set_option Elab.async false
set_option linter.all false
set_option maxRecDepth 100000
set_option maxHeartbeats 8000000
/-! Kn: defs that show data by repr. A promise that holds where nothing is being shown yet (Vow), its body, its call, the law's end. -/
namespace Kn
open PySem PySem.Spec PyProof.Rows L2

section
variable (P : Program) (w : World) (K : PySem.W.Frag) (mg : Str → Option Value) (base : Heap)
structure Vow (k : Nat) (f : Addr) (fd : FuncData) (ps : List Str) (sp : Sp) : Prop where
  many : ∀ vs H Q E, sp vs H Q E → vs.length = ps.length
  goes : ∀ (A : Around) (fr : List Env) (s : Shared) (H : Hp) (g : Args) (us : List Value) (vs : List V) (Q : VK) (E : XK), A.guards = some [] → Room k A →
    Env0 P w K mg base A fr s H → BindsTo s fd g (ps.zip us) → Vals vs us → sp vs H Q E → codeAny (model P w) A (.call (.ref f) g) (CR CX0 fr P w H s Q E) s
end
section
variable {P : Program} {w : World} {K : PySem.W.Frag} {mg : Str → Option Value} {base : Heap} {k : Nat} {f : Addr} {fd : FuncData} {ps N : List Str} {sp : Sp} {x qual : Str} {st : Stmt}

theorem Vow.body (F : Fun K x qual st f fd) (S : FnScope N ps (defScope st)) (many : ∀ vs H Q E, sp vs H Q E → vs.length = ps.length)
    (hb : ∀ (cdv : Value) (A : Around) (fr : List Env) (s : Shared) (H : Hp) (vs : List V) (Q : VK) (E : XK), A.guards = some [] → Room k (A.deeper (envOfC qual (defScope st) s.heap.objs.size f cdv)) → sp vs H Q E →
      ∃ t, PSs (cxOf CX0 P w K mg base N qual (defScope st) f cdv A fr s H E).nox (defBody st) t ∧ t { nx := fun _ H' => Q .non H', rt := Q } (start N vs) H) :
    Vow P w K mg base (k + 1) f fd ps sp := by
  obtain ⟨oc, od, kV, doc, pm, an, cdv, ct, osl, rfl, look, cdOk⟩ := F.ex
  refine ⟨many, fun A fr s H g us vs Q E hg room z bound rv told => ?_⟩
  have held : ∀ b o, base.get? b = some o → s.heap.get? b = some o := fun b o y => (z.bs b o y).1
  have KS : K.In s.heap := z.mod.kin.keeps held
  have parL : ∀ y ∈ ps.zip us, (defScope st).names.lookup y.1 = some .local ∨ ((defScope st).names.lookup y.1 = some .cell ∧ ((cellsFrom (s.heap.objs.size + 1) (defScope st).names []).lookup y.1).isSome = true) := by
    rintro ⟨n, v⟩ hy
    cases S.par n (List.of_mem_zip hy).1 with
    | inl q => exact .inl q
    | inr q => exact .inr ⟨q, PySem.W.cellsFrom_some _ _ _ (.inl q)⟩
  refine codeAny_call_function room.depth (KS _ _ look) rfl S.co S.gen rfl (PySem.W.codeRec_of KS cdOk) (bound _ _ _ _ ?_)
  refine wpAny_newFunctionEnv_cells S.kind parL ?_
  rintro env rfl s1 y
  refine ⟨(z.mod.nolimit.keeps held).keeps y.toInCall.keep, codeAny_func ?_⟩
  obtain ⟨t, ht, ends⟩ := hb cdv A fr s H vs Q E hg (room.deeper _) told
  have I := inv_start (CX := CX0) (P := P) (mg := mg) (E := E) S room.hd z (many _ _ _ _ told) rv y
  refine wpAny_mono (ht.nox.run [] s1 (start N vs) H _ I ends) ?_ (fun _ _ q => q)
  intro fl s2 hs
  cases fl with
  | ret u => obtain ⟨v, σ2, H2, J, r2, q⟩ := hs; exact ⟨v, H2, J.os, J.bare, J.base, J.hok, r2, q⟩
  | next => obtain ⟨σ2, H2, J, q⟩ := hs; exact ⟨V.non, H2, J.os, J.bare, J.base, J.hok, rfl, q⟩
  | brk => obtain ⟨_, _, _, q⟩ := hs; exact q.elim
  | cont => obtain ⟨_, _, _, q⟩ := hs; exact q.elim

theorem Vow.of (F : FnOk P w K mg base CX0 k f fd ps sp) : Vow P w K mg base k f fd ps sp :=
  ⟨F.len, fun A fr s H g us vs Q E _ room z bound rv told => F.run A fr s H g us vs Q E room z bound rv told⟩
end

section
variable {X : Cx} {k : Nat} {f : Addr} {fd : FuncData} {ps : List Str} {sp : Sp} {x : Str} {p pos : Pos} {e : Expr} {es : List Expr} {t : TA}
/-- f(e, ..) of a def that vows -/
theorem pe_vow (F : Vow X.prog X.w X.K X.mg X.base k f fd ps sp) (hq : X.A.guards = some []) (hr : Room k X.A) (hg : Gl X x) (hm : X.mg x = some (.ref f)) (hk : PySem.W.keepIn X.K (.ref f) = true) (hb : Binds X.K fd ps [])
    (ha : PA X (e :: es) t) (hdb : (x == ("__debug__" : Str)) = false := by decide) (he : starEach (e :: es) X.env = (false, eval e X.env) :: starEach es X.env := by rfl) (hpl : (backTo pos (starEach es X.env)).any (·.1) = false := by rfl) :
    PE X (.Call (.Name x p) (e :: es) [] pos) (tCall sp [] E0 t) := by
  refine ⟨fun pins s σ H Q I told => wpAny_Call_Name_kw (ld_glob I hg hm ?_ hdb)⟩
  refine PySem.W.callWith_K (h₀ := X.base) I.ok.mod.kin hk (thn (ha.run pos pins s σ H _ I told) ?_) he hpl
  rintro us s1 ⟨vs, H1, I1, rv, q⟩
  refine ⟨I1.kIn, ?_⟩
  have q : sp (vs ++ []) H1 Q E0 := q
  rw [List.append_nil] at q
  have hl : (us ++ []).length = ps.length := by rw [List.append_nil, ← rv.length]; exact F.many _ _ _ _ q
  have hb1 := hb s1 us I1.kIn hl
  rw [List.append_nil] at hb1
  refine wpAny_call (codeAny_mono (F.goes X.A X.stack s1 H1 ⟨us, []⟩ us vs Q E0 hq hr I1.env0 hb1 rv q) ?_)
  intro r s2 out
  cases r with
  | error _ => exact False.elim out
  | ok fl =>
    cases fl with
    | ret u => exact I1.after out
    | next => exact False.elim out
    | brk => exact False.elim out
    | cont => exact False.elim out

/-- repr(x) of data -/
def rShow (K : PySem.W.Frag) : List V → Hp → VK → Prop := fun xs H Q => ∃ (a : Addr) (d : PyData), xs = [.ref a] ∧ Dp K H (.ref a) d ∧ d.showable = true ∧ d.hasDict = false ∧ d.depth ≤ 20 ∧ d.shown.length ≤ sizeLine ∧ Q (.str d.shown) H
theorem call_show (hq : X.A.guards = some []) (hu : X.A.units + 64 < cLine) : CallR X (.builtin "repr") (rShow X.K) := by
  rintro pins s σ H xs us Q I rv ⟨a, d, rfl, hd, h1, h2, h3, h4, q⟩
  obtain ⟨u, rfl, rfl⟩ := vals1 rv
  obtain ⟨as, rd⟩ := Dp.reads I d _ _ hd rfl
  exact repr_of_reads' rd h1 (PyData.noDict_hsm h2) hq (by omega) (fun _ _ y => y) (fun h' u tk kp => ⟨.str d.shown, H, I.kept kp, ⟨_, rfl⟩, q⟩) h4
end

/-! the law's end -/
section
variable {P : Program} {w : World} {K : PySem.W.Frag} {mg mb : Str → Option Value} {k : Nat} {fa a : Addr} {fd : FuncData} {x : Str} {sp : Sp} {s : Shared} {vs : List Value} {ns : List Int}
theorem end_vow (kin : K.In s.heap) (nsm : s.heap.Ns mainGlobals mg) (nsb : s.heap.Ns builtinsNs mb) (boot : ∀ y : Str, y ≠ "__name__" → mb y = bootBuiltins y) (lim : s.heap.NoLimit) (gens : s.gens = #[])
    (at_ : s.heap.get? a = some { cls := .type "list", data := .seq vs.toArray }) (iv : IntsAre vs ns) (short : ns.length ≤ sizeLine) (room : Room k callerA)
    (F : ∀ base : Heap, K.In base → base.Ns mainGlobals mg → Vow P w K mg base k fa fd [x] sp) (bound : ∀ (z : Shared) (u : Value), BindsTo z fd ⟨[u], []⟩ [(x, u)])
    (told : ∀ H : Hp, Only H → SqL K H a (ns.map V.int) → sp [.ref a] H (fun v _ => v = .bl true) E0) :
    codeAny (model P w) callerA (.call (.ref fa) ⟨[.ref a], []⟩) (fun r s' => r = .ok (.ret (.bool true)) ∧ OldK s.heap s'.heap ∧ s'.os = s.os ∧ AllBare s'.gens) s := by
  have many : ns.length = vs.length := by rw [iv.length]
  have main : ∀ H : Hp, Only H → SqL K H a (ns.map V.int) → HOk P w H s.heap → (∀ b u, H b = some u → b = a ∧ K.lookup a = none) →
      codeAny (model P w) callerA (.call (.ref fa) ⟨[.ref a], []⟩) (fun r s' => r = .ok (.ret (.bool true)) ∧ OldK s.heap s'.heap ∧ s'.os = s.os ∧ AllBare s'.gens) s := by
    intro H only lst ok alone
    have free : ∀ b o, s.heap.get? b = some o → o ≠ { cls := .type "list", data := .seq vs.toArray } → H b = none := by
      intro b o y ne
      cases q : H b with
      | none => rfl
      | some u =>
        obtain ⟨rfl, _⟩ := alone b u q
        rw [at_] at y
        exact absurd (Option.some.inj y).symm ne
    have nsk : ∀ {b : Addr} {m : Str → Option Value}, s.heap.Ns b m → (hidT s.heap H).Ns b m := by
      rintro b m ⟨o, es, ep, y, dd, r⟩
      refine ⟨o, es, ep, hidT_get y (free b o y ?_), dd, r⟩
      rintro rfl
      have dd2 : Data.seq vs.toArray _ = Data.dict es ep := dd
      cases dd2
    have kinB : K.In (hidT s.heap H) := by
      intro b o y
      refine hidT_get (kin b o y) ?_
      cases q : H b with
      | none => rfl
      | some u =>
        obtain ⟨rfl, no⟩ := alone b u q
        rw [no] at y
        cases y
    obtain ⟨mc, c1, c2⟩ := lim
    have md : Mod K mg (hidT s.heap H) := ⟨kinB, nsk nsm, ⟨mb, nsk nsb, boot⟩, mc, nsk c1, c2⟩
    have noL : ∀ {b : Addr}, b ∉ ([] : List Addr) := fun h => by cases h
    have z : Env0 P w K mg (hidT s.heap H) callerA [] s H := ⟨rfl, md, fun b o y => of_hidT y, Nat.le_of_eq (hidT_size _ _), trivial, fun b h => absurd h noL, ok, .of_eq gens⟩
    have run := (F _ kinB (nsk nsm)).goes callerA [] s H ⟨[.ref a], []⟩ [.ref a] [.ref a] _ _ rfl room z (bound s (.ref a)) (.cons rfl .nil) (told H only lst)
    refine codeAny_mono run ?_
    intro r s2 out
    cases r with
    | error _ => exact False.elim out
    | ok fl =>
      cases fl with
      | next => exact False.elim out
      | brk => exact False.elim out
      | cont => exact False.elim out
      | ret u =>
        obtain ⟨v, H2, os, bare, un, ok2, r2, rfl⟩ := out
        obtain rfl : u = Value.bool true := r2
        refine ⟨rfl, OldK.of_keep (fun b o y => ?_), os, bare⟩
        cases q : H b with
        | none => exact un.keep b o y q noL noL
        | some u =>
          rcases only b with n | ⟨ob, xs, n⟩
          · rw [q] at n
            cases n
          · obtain ⟨y1, _⟩ := ok b _ n
            obtain ⟨y2, _⟩ := ok2 b _ (un.frzs b ob _ n)
            rw [y] at y1
            cases y1
            exact y2
  have rv : Vals (ns.map V.int) vs := vals_ints iv
  cases hk : K.lookup a with
  | some o =>
    have y := kin a o hk
    rw [at_] at y
    cases y
    refine main (fun _ => none) (fun _ => .inl rfl) (.inr ⟨_, vs.toArray, _, hk, rfl, rfl, rfl, by rw [List.size_toArray, ← many]; exact short, by simpa using rv⟩) (fun b u q => ?_) (fun b u q => ?_)
    · have q : (none : Option HO) = some u := q
      cases q
    · have q : (none : Option HO) = some u := q
      cases q
  | none =>
    refine main (fun b => if b = a then some (.frz { cls := .type "list", data := .seq vs.toArray } (.lst (ns.map V.int))) else none) (fun b => ?_) (.inl (.inr ⟨{ cls := .type "list", data := .seq vs.toArray }, if_pos rfl⟩)) (fun b u q => ?_) (fun b u q => ?_)
    · by_cases hb : b = a
      · exact .inr ⟨_, _, if_pos hb⟩
      · exact .inl (if_neg hb)
    · by_cases hb : b = a
      · subst hb
        cases (if_pos rfl).symm.trans q
        exact ⟨at_, by rw [List.length_map]; exact short, vs, _, rv, at_⟩
      · cases (if_neg hb).symm.trans q
    · by_cases hb : b = a
      · exact ⟨hb, hk⟩
      · cases (if_neg hb).symm.trans q

theorem walk_vow {l : PySem.W.OpenLaw} {q : Program} {loose : List Str} {XP : (Str → Option Value) → Heap → Prop} {YP : World → Heap → Prop} {d : DefRec} {K : Params → PySem.W.Frag} {sp : PySem.W.Frag → Sp}
    (most : l.most = some 63) (dflt : d.params.defaults = []) (room : Room k callerA) (hY : ∀ (w : World) (h : Heap), YP w h → (K w.params).In h)
    (F : ∀ (w : World) (mg : Str → Option Value) (fa : Addr) (h : Heap), (K w.params).In h → h.Ns mainGlobals mg → mg d.name = some (.ref fa) →
      ∃ fd : FuncData, (∀ (z : Shared) (u : Value), BindsTo z fd ⟨[u], []⟩ [(x, u)]) ∧ ∀ base : Heap, (K w.params).In base → base.Ns mainGlobals mg → Vow l.prog w (K w.params) mg base k fa fd [x] (sp (K w.params)))
    (told : ∀ (K : PySem.W.Frag) (H : Hp) (a : Addr) (ns : List Int), ns.length ≤ 63 → Only H → SqL K H a (ns.map V.int) → sp K [.ref a] H (fun v _ => v = .bl true) E0) :
    PySem.W.WalkO q loose XP YP l.row.toRowW d [] (fun f vs => PySem.call f vs) := by
  refine Att.attach_call most dflt ?_
  intro w s0 s1 mg mb fa o pm cd doc a vs ns G Y ho hd hcd hmg hobj iv short gens
  have kin := hY w _ Y
  obtain ⟨fd, hb, hF⟩ := F w mg fa _ kin G.T.g hmg
  exact end_vow kin G.T.g G.T.b G.T.builtins G.T.nolimit gens hobj iv (Nat.le_trans short (by decide)) room hF hb (fun H only lst => told _ H a ns short only lst)
end
end Kn


/-! Kn: texts: lengths and signs; the pure defs of the program and of the law. -/
namespace Kn
open PySem PySem.Spec PyProof.Rows L2

/-! ### texts -/
def Fit (n : Nat) (x : Str) : Prop := x.length ≤ n ∧ ∀ c ∈ x.cps.toList, c < 16 ^ 8
theorem Fit.mono {n m : Nat} {x : Str} (h : Fit n x) (l : n ≤ m) : Fit m x := ⟨Nat.le_trans h.1 l, h.2⟩
theorem len_app (a b : Str) : (a ++ b).length = a.length + b.length := by
  show (a.cps ++ b.cps).size = _
  rw [Array.size_append]
  rfl
theorem Fit.app {n m : Nat} {a b : Str} (h : Fit n a) (k : Fit m b) : Fit (n + m) (a ++ b) := by
  refine ⟨by rw [len_app]; have := h.1; have := k.1; omega, fun c hc => ?_⟩
  have hc : c ∈ (a.cps ++ b.cps).toList := hc
  rw [Array.toList_append, List.mem_append] at hc
  exact hc.elim (h.2 c) (k.2 c)
theorem app_assoc (a b c : Str) : a ++ b ++ c = a ++ (b ++ c) := by
  show Str.mk (a.cps ++ b.cps ++ c.cps) = Str.mk (a.cps ++ (b.cps ++ c.cps))
  rw [Array.append_assoc]
theorem nil_app (a : Str) : Str.empty ++ a = a := by
  show Str.mk (#[] ++ a.cps) = a
  rw [Array.empty_append]
theorem Fit.join {n m : Nat} {y : Str} (hy : Fit m y) : ∀ (xs : List Str), (∀ x ∈ xs, Fit n x) → Fit (xs.length * (n + m)) (Str.join y xs)
  | [], _ => ⟨Nat.zero_le _, fun c hc => by cases hc⟩
  | [x], h => (h x (List.mem_cons_self ..)).mono (by rw [List.length_singleton]; omega)
  | x :: z :: r, h => by
    have ih := Fit.join hy (z :: r) fun v hv => h v (List.mem_cons_of_mem _ hv)
    have q := ((h x (List.mem_cons_self ..)).app hy).app ih
    refine q.mono ?_
    simp only [List.length_cons, Nat.add_mul, Nat.one_mul]
    omega
theorem fit_string (s : String) : ∀ c ∈ (Str.ofString s).cps.toList, c < 16 ^ 8 := by
  intro c hc
  rw [Str.ofString_eq_toList] at hc
  have hc : c ∈ s.toList.map Char.toNat := by simpa using hc
  obtain ⟨d, _, rfl⟩ := List.mem_map.mp hc
  have h : d.toNat < 1114112 := by
    have v := d.valid
    have e : d.toNat = d.val.toNat := rfl
    rcases v with v | ⟨_, v⟩
    · rw [e]; have v : d.val.toNat < 55296 := v; omega
    · rw [e]; exact v
  exact Nat.lt_trans h (by decide)
theorem len_string (s : String) : (Str.ofString s).length = s.toList.length := by
  rw [Str.ofString_eq_toList]
  show ((s.toList.map Char.toNat).toArray).size = _
  rw [List.size_toArray, List.length_map]

/-! ### comprehensions that change nothing -/
theorem tupS {K : PySem.W.Frag} {H H' : Hp} {a : Addr} {xs : List V} (e : Same H H') (h : SqT K H a xs) : SqT K H' a xs := by
  rcases h with (h | ⟨o, h⟩) | h
  · exact .inl (.inl (e _ _ h))
  · exact .inl (.inr ⟨o, e _ _ h⟩)
  · exact .inr h
theorem same_new {H : Hp} {p : Addr} {o : HO} (h : H p = none) : Same H (upd H p o) := fun b x e => by
  rw [upd_ne (ne_of_none e h)]
  exact e
theorem putS {H H' : Hp} {p : Addr} {o : HO} (e : Same H H') (h : H p = none) : Same H (upd H' p o) := fun b x q => by
  rw [upd_ne (ne_of_none q h)]
  exact e _ _ q
theorem small' {n : Nat} (h : n ≤ 1000) : n < sizeLine := Nat.lt_of_le_of_lt h (by decide)
theorem take_next {ys : List V} {i : Nat} {y : V} (h : ys[i]? = some y) : ys.take i ++ [y] = ys.take (i + 1) := by
  rw [List.take_add_one, h]
  rfl
theorem lc_mapT {K : PySem.W.Frag} {a : Addr} {xs : List V} {slot : Nat} {te tl : TE} {vs : List Nat} {σ : L2.St} {H : Hp} {Q : VK} (ys : List V) (hl : ys.length = xs.length) (hs : xs.length ≤ 1000) (hT : SqT K H a xs)
    (htl : ∀ R : VK, R (.ref a) H → tl σ H R) (w : ∀ v, wipe ((wipe σ vs).set slot (some v)) vs = wipe σ vs)
    (turn : ∀ (i : Nat) (x y : V) (G : Hp) (R : VK), xs[i]? = some x → ys[i]? = some y → Same H G → (∀ G', Same G G' → R y G') → te ((wipe σ vs).set slot (some x)) G R)
    (done : ∀ (D : Addr) (G : Hp), H D = none → Same H G → G D = some (.lst ys) → Q (.ref D) G) : tLc (iTup K tl) (gName slot) tYes te vs σ H Q := by
  refine htl _ ⟨a, rfl, ⟨xs, hT⟩, fun D nD => ?_⟩
  refine lc_tup (K := K) (a := a) (xs := xs) (fun i G => Same H G ∧ G D = some (.lst (ys.take i))) ⟨same_new nD, upd_same⟩ (fun i G _ h => tupS h.1 hT) ?_ ?_
  · rintro i x G hx ⟨sm, hD⟩
    have hi : i < xs.length := (List.getElem?_eq_some_iff.mp hx).1
    have hy : ys[i]? = some (ys[i]'(by omega)) := List.getElem?_eq_getElem (by omega)
    refine ⟨w x, ?_⟩
    simp only [tYes, ↓reduceIte]
    refine turn i x _ G _ hx hy sm fun G' s' => ⟨ys.take i, s' _ _ hD, ?_, ?_, ?_⟩
    · rw [List.length_take]
      exact small' (by omega)
    · exact putS (sm.trans s') nD
    · rw [upd_same, take_next hy]
  · rintro G ⟨sm, hD⟩
    refine done D G nD sm ?_
    rw [hD, List.take_of_length_le (by omega)]
theorem lc_mapL {K : PySem.W.Frag} {a : Addr} {xs : List V} {slot : Nat} {te tl : TE} {vs : List Nat} {σ : L2.St} {H : Hp} {Q : VK} (ys : List V) (hl : ys.length = xs.length) (hs : xs.length ≤ 1000) (hT : SqL K H a xs)
    (htl : ∀ R : VK, R (.ref a) H → tl σ H R) (w : ∀ v, wipe ((wipe σ vs).set slot (some v)) vs = wipe σ vs)
    (turn : ∀ (i : Nat) (x y : V) (G : Hp) (R : VK), xs[i]? = some x → ys[i]? = some y → Same H G → (∀ G', Same G G' → R y G') → te ((wipe σ vs).set slot (some x)) G R)
    (done : ∀ (D : Addr) (G : Hp), H D = none → Same H G → G D = some (.lst ys) → Q (.ref D) G) : tLc (iList K tl) (gName slot) tYes te vs σ H Q := by
  refine htl _ ⟨a, rfl, ⟨xs, hT⟩, fun D nD => ?_⟩
  refine lc_list (K := K) (a := a) (xs := xs) (fun i G => Same H G ∧ G D = some (.lst (ys.take i))) ⟨same_new nD, upd_same⟩ (fun i G _ h => h.1.seq hT) ?_ ?_
  · rintro i x G hx ⟨sm, hD⟩
    have hi : i < xs.length := (List.getElem?_eq_some_iff.mp hx).1
    have hy : ys[i]? = some (ys[i]'(by omega)) := List.getElem?_eq_getElem (by omega)
    refine ⟨w x, ?_⟩
    simp only [tYes, ↓reduceIte]
    refine turn i x _ G _ hx hy sm fun G' s' => ⟨ys.take i, s' _ _ hD, ?_, ?_, ?_⟩
    · rw [List.length_take]
      exact small' (by omega)
    · exact putS (sm.trans s') nD
    · rw [upd_same, take_next hy]
  · rintro G ⟨sm, hD⟩
    refine done D G nD sm ?_
    rw [hD, List.take_of_length_le (by omega)]

/-! ### str of an int or a text -/
def shV : V → Str
  | .int i => Str.ofString (toString i)
  | .str z => z
  | _ => Str.empty
def FlatV : V → Prop
  | .int i => i.natAbs.log2 < 1920
  | .str _ => True
  | _ => False
theorem call_str_flat {X : Cx} : CallR X (.type "str") (fun xs H Q => ∃ v, xs = [v] ∧ FlatV v ∧ Q (.str (shV v)) H) := by
  rintro pins s σ H xs us Q I rv ⟨v, rfl, hv, q⟩
  cases v with
  | int i => exact call_str_int pins s σ H _ us Q I rv ⟨i, rfl, hv, q⟩
  | str z => exact SkE.call_str_str pins s σ H _ us Q I rv ⟨z, rfl, q⟩
  | _ => exact hv.elim

/-! ### the data -/
structure Ent where
  name : Str
  fee : Int
  has : Bool
  row : List Str
def Ent.ok (e : Ent) : Prop := Fit 8 e.name ∧ e.fee.natAbs < 10 ^ 60 ∧ e.row.length ≤ 8 ∧ ∀ s ∈ e.row, Fit 8 s
def EntAt (K : PySem.W.Frag) (H : Hp) (v : V) (e : Ent) : Prop := ∃ p q, v = .ref p ∧ SqT K H p [.str e.name, .int e.fee, .bl e.has, .ref q] ∧ SqT K H q (e.row.map V.str)
inductive EntsAt (K : PySem.W.Frag) (H : Hp) : List V → List Ent → Prop
  | nil : EntsAt K H [] []
  | cons {v : V} {vs : List V} {e : Ent} {es : List Ent} : EntAt K H v e → EntsAt K H vs es → EntsAt K H (v :: vs) (e :: es)
theorem EntAt.same {K : PySem.W.Frag} {H H' : Hp} {v : V} {e : Ent} (s : Same H H') : EntAt K H v e → EntAt K H' v e := fun ⟨p, q, a, b, c⟩ => ⟨p, q, a, tupS s b, tupS s c⟩
theorem EntsAt.same {K : PySem.W.Frag} {H H' : Hp} (s : Same H H') : ∀ {vs : List V} {es : List Ent}, EntsAt K H vs es → EntsAt K H' vs es
  | _, _, .nil => .nil
  | _, _, .cons a b => .cons (a.same s) (EntsAt.same s b)
theorem EntsAt.len {K : PySem.W.Frag} {H : Hp} : ∀ {vs : List V} {es : List Ent}, EntsAt K H vs es → vs.length = es.length
  | _, _, .nil => rfl
  | _, _, .cons _ b => congrArg Nat.succ (EntsAt.len b)
theorem EntsAt.get {K : PySem.W.Frag} {H : Hp} : ∀ {vs : List V} {es : List Ent} {i : Nat} {v : V}, EntsAt K H vs es → vs[i]? = some v → ∃ e, es[i]? = some e ∧ EntAt K H v e
  | _, _, i, v, .nil, h => by cases h
  | _, _, 0, v, .cons a b, h => by
    have h : some _ = some v := h
    cases h
    exact ⟨_, rfl, a⟩
  | _, _, i + 1, v, .cons a b, h => EntsAt.get (i := i) b h
theorem EntsAt.append {K : PySem.W.Frag} {H : Hp} : ∀ {vs ws : List V} {es ds : List Ent}, EntsAt K H vs es → EntsAt K H ws ds → EntsAt K H (vs ++ ws) (es ++ ds)
  | _, _, _, _, .nil, h => h
  | _, _, _, _, .cons a b, h => .cons a (EntsAt.append b h)
theorem EntsAt.rev {K : PySem.W.Frag} {H : Hp} : ∀ {vs : List V} {es : List Ent}, EntsAt K H vs es → EntsAt K H vs.reverse es.reverse
  | _, _, .nil => .nil
  | _, _, .cons a b => by
    rw [List.reverse_cons, List.reverse_cons]
    exact (EntsAt.rev b).append (.cons a .nil)
structure Pg where
  es : List Ent
  asks : Str
def Pg.ok (g : Pg) : Prop := g.es.length ≤ 12 ∧ (∀ e ∈ g.es, e.ok) ∧ Fit 8 g.asks
def PgAt (K : PySem.W.Frag) (H : Hp) (v : V) (g : Pg) : Prop := ∃ p q vs, v = .ref p ∧ SqT K H p [.ref q, .str g.asks] ∧ SqT K H q vs ∧ EntsAt K H vs g.es
theorem PgAt.same {K : PySem.W.Frag} {H H' : Hp} {v : V} {g : Pg} (s : Same H H') : PgAt K H v g → PgAt K H' v g := fun ⟨p, q, vs, a, b, c, d⟩ => ⟨p, q, vs, a, tupS s b, tupS s c, d.same s⟩

/-! ### the texts -/
def tabT (t : List Str) : Str := if t = [] then ("-" : Str) else Str.join "," t
def wordT (b : Bool) : Str := if b = true then ("has" : Str) else ("not" : Str)
def feeT (i : Int) : Str := Str.ofString (toString i)
def lineT (e : Ent) : Str := Str.join " " ["kind", e.name, feeT e.fee, wordT e.has, tabT e.row]
def pageT (g : Pg) : Str := Str.join "\n" (g.es.map lineT ++ [("asker " : Str) ++ g.asks])
theorem fit_of (s : String) {n : Nat} (h : s.toList.length ≤ n) : Fit n (Str.ofString s) := ⟨by rw [len_string]; exact h, fit_string s⟩
theorem fee_log {i : Int} (h : i.natAbs < 10 ^ 60) : i.natAbs.log2 < 1920 := by
  by_cases z : i.natAbs = 0
  · rw [z]; decide
  · exact (Nat.log2_lt z).mpr (Nat.lt_trans h (by decide))
theorem feeT_fit {i : Int} (h : i.natAbs < 10 ^ 60) : Fit 61 (feeT i) := by
  refine fit_of _ ?_
  have := int_text_length_le10 (k := 60) (by decide) h
  rw [String.length_toList]
  exact this
theorem tabT_fit {t : List Str} (h : t.length ≤ 8) (k : ∀ s ∈ t, Fit 8 s) : Fit 100 (tabT t) := by
  unfold tabT
  split
  · exact fit_of "-" (by decide)
  · refine (Fit.join (m := 1) (fit_of "," (by decide)) t k).mono ?_
    have := Nat.mul_le_mul_right (8 + 1) h
    omega
theorem wordT_fit (b : Bool) : Fit 3 (wordT b) := by
  unfold wordT
  split
  · exact fit_of "has" (by decide)
  · exact fit_of "not" (by decide)
theorem lineT_fit {e : Ent} (h : e.ok) : Fit 600 (lineT e) := by
  obtain ⟨h1, h2, h3, h4⟩ := h
  refine (Fit.join (n := 100) (m := 1) (fit_of " " (by decide)) _ ?_).mono (by simp)
  intro x hx
  simp only [List.mem_cons, List.not_mem_nil, or_false] at hx
  rcases hx with rfl | rfl | rfl | rfl | rfl
  · exact (fit_of "kind" (n := 100) (by decide))
  · exact h1.mono (by omega)
  · exact (feeT_fit h2).mono (by omega)
  · exact (wordT_fit _).mono (by omega)
  · exact (tabT_fit h3 h4)
theorem askT_fit {g : Pg} (h : g.ok) : Fit 600 (("asker " : Str) ++ g.asks) := ((fit_of "asker " (n := 6) (by decide)).app h.2.2).mono (by omega)
theorem pageT_fit {g : Pg} (h : g.ok) : Fit 10000 (pageT g) := by
  refine (Fit.join (n := 600) (m := 1) (fit_of "\n" (by decide)) _ ?_).mono ?_
  · intro x hx
    rcases List.mem_append.mp hx with hx | hx
    · obtain ⟨e, he, rfl⟩ := List.mem_map.mp hx
      exact lineT_fit (h.2.1 e he)
    · obtain rfl := List.mem_singleton.mp hx
      exact askT_fit h
  · have := Nat.mul_le_mul_right (600 + 1) h.1
    rw [List.length_append, List.length_map, List.length_singleton, Nat.add_mul]
    omega
theorem kind_sp : ("kind " : Str) = ("kind" : Str) ++ (" " : Str) := by decide +kernel
theorem line_chain (e : Ent) : Str.empty ++ ("kind " : Str) ++ e.name ++ (" " : Str) ++ feeT e.fee ++ (" " : Str) ++ wordT e.has ++ (" " : Str) ++ tabT e.row = lineT e := by
  unfold lineT
  simp only [Str.join, app_assoc, nil_app, kind_sp]
end Kn


namespace Kn
open PySem PySem.Spec PyProof.Rows L2
def topS (i : Nat) : Stmt := PySem.Challenge.pw_firstletter_k12_whole_texts_there_and_ba.main.body.getD i (.Pass ⟨0, 0, 0, 0⟩)
/-! ### the slots -/
abbrev nTab : List Str := ["table"]
theorem scTab : FnScope nTab ["table"] (defScope (topS 20)) := ⟨rfl, rfl, rfl, by decide +kernel, rfl, by decide +kernel, by decide +kernel⟩
abbrev nKind : List Str := ["kind", "name", "fee", "has", "table", "word"]
theorem scKind : FnScope nKind ["kind"] (defScope (topS 21)) := ⟨rfl, rfl, rfl, by decide +kernel, rfl, by decide +kernel, by decide +kernel⟩
abbrev nWeb : List Str := ["web", "kinds", "asker", "lines", "kind"]
theorem scWeb : FnScope nWeb ["web"] (defScope (topS 22)) := ⟨rfl, rfl, rfl, by decide +kernel, rfl, by decide +kernel, by decide +kernel⟩
abbrev nNum : List Str := ["numbers", "number"]
theorem scNum : FnScope nNum ["numbers"] (defScope (topS 23)) := ⟨rfl, rfl, rfl, by decide +kernel, rfl, by decide +kernel, by decide +kernel⟩
/-! ### the promises -/
def spTab (K : PySem.W.Frag) : Sp := fun vs H Q _ => ∃ (a : Addr) (t : List Str), vs = [.ref a] ∧ SqT K H a (t.map V.str) ∧ t.length ≤ 8 ∧ (∀ s ∈ t, Fit 8 s) ∧ Q (.str (tabT t)) H
def spKind (K : PySem.W.Frag) : Sp := fun vs H Q _ => ∃ (v : V) (e : Ent), vs = [v] ∧ EntAt K H v e ∧ e.ok ∧ Q (.str (lineT e)) H
def spWeb (K : PySem.W.Frag) : Sp := fun vs H Q _ => ∃ (v : V) (g : Pg), vs = [v] ∧ PgAt K H v g ∧ g.ok ∧ ∀ H', Same H H' → Q (.str (pageT g)) H'
def numT (t : List Int) : Str := Str.join "," (t.map feeT)
def spNum (K : PySem.W.Frag) : Sp := fun vs H Q _ => ∃ (a : Addr) (t : List Int), vs = [.ref a] ∧ SqT K H a (t.map V.int) ∧ t.length ≤ 8 ∧ (∀ i ∈ t, i.natAbs < 10 ^ 60) ∧ ∀ H', Same H H' → Q (.str (numT t)) H'

theorem sum_le {n : Nat} : ∀ (ys : List Str), (∀ y ∈ ys, Fit n y) → (ys.map (·.length)).sum ≤ ys.length * n
  | [], _ => Nat.zero_le _
  | y :: r, h => by
    have ih := sum_le r fun v hv => h v (List.mem_cons_of_mem _ hv)
    have q := (h y (List.mem_cons_self ..)).1
    rw [List.map_cons, List.sum_cons, List.length_cons, Nat.add_mul]
    omega
/-- what join asks: few short texts -/
theorem join_room {n m : Nat} {a : Str} {ys : List Str} (h : ∀ y ∈ ys, Fit n y) (ha : a.length ≤ 10) (hl : ys.length ≤ m) (hm : m * (n + 10) ≤ 16777216) : (ys.map (·.length)).sum + ys.length * a.length ≤ 16777216 := by
  have h1 := sum_le ys h
  have h2 : ys.length * (n + 10) ≤ m * (n + 10) := Nat.mul_le_mul_right _ hl
  have h3 : ys.length * a.length ≤ ys.length * 10 := Nat.mul_le_mul_left _ ha
  rw [Nat.mul_add] at h2
  omega
theorem size16 : 16777216 ≤ sizeLine := by decide
section
variable {P : Program} {w : World} {K : PySem.W.Frag} {mg : Str → Option Value} {base : Heap}
theorem ok_tab {f : Addr} {fd : FuncData} (F : Fun K "table_text" "table_text" (topS 20) f fd) (ml : mg "len" = none) : FnOk P w K mg base CX0 1 f fd ["table"] (spTab K) := by
  refine F.ok scTab (fun vs H Q E h => ?_) (fun cdv A outer s H vs Q E hr h => ?_)
  · obtain ⟨a, t, rfl, _⟩ := h
    rfl
  · obtain ⟨a, t, rfl, hT, hl, hf, q⟩ := h
    refine ⟨_, pss_one (ps_ret (pe_ifExp (pt_cmpR op_gt (pe_callB call_len_seq (by rfl) ml PySem.boot_len (pa_cons (pv 0) pa_nil)) pe_int (nomark _)) (pe_join pe_str (pv 0)) pe_str)), ?_⟩
    refine ⟨.ref a, rfl, a, t.map V.str, rfl, .inr hT, _, _, rfl, rfl, _, rfl, ite2 (fun e => ?_) (fun e => ?_)⟩
    · have e0 := of_decide_eq_true e
      have ne : t ≠ [] := fun z => by
        subst z
        exact absurd e0 (by decide)
      refine ⟨⟨_, rfl⟩, .ref a, rfl, _, a, t, rfl, rfl, .inr hT, join_room (m := 8) hf (by decide) hl (by decide), ?_⟩
      have et : tabT t = Txt.join "," t := by
        unfold tabT
        rw [if_neg ne, TL.join_eq]
      rw [← et]
      exact q
    · have et : t = [] := by
        cases t with
        | nil => rfl
        | cons x r =>
          refine absurd (decide_eq_true ?_) e
          rw [List.length_map, List.length_cons]
          omega
      subst et
      exact q

theorem ok_kind {f fT : Addr} {fd fdT : FuncData} (F : Fun K "kind_text" "kind_text" (topS 21) f fd) (FT : Fun K "table_text" "table_text" (topS 20) fT fdT) (bT : Binds K fdT ["table"] []) (gT : mg "table_text" = some (.ref fT)) (ml : mg "len" = none) :
    FnOk P w K mg base CX0 2 f fd ["kind"] (spKind K) := by
  have GT : FnOk P w K mg base CX0 1 fT fdT ["table"] (spTab K) := ok_tab FT ml
  refine F.ok scKind (fun vs H Q E h => ?_) (fun cdv A outer s H vs Q E hr h => ?_)
  · obtain ⟨v, e, rfl, _⟩ := h
    rfl
  · obtain ⟨v, e, rfl, ⟨p, r, rfl, hp, hq⟩, ⟨k1, k2, k3, k4⟩, q⟩ := h
    refine ⟨_, pss_cons (ps_asg (pv 0) (pg_tup (by rfl) (pgs_cons (pg_name (i := 1) scKind.nd rfl (.inl rfl)) (pgs_cons (pg_name (i := 2) scKind.nd rfl (.inl rfl)) (pgs_cons (pg_name (i := 3) scKind.nd rfl (.inl rfl)) (pgs_cons (pg_name (i := 4) scKind.nd rfl (.inl rfl)) pgs_nil))))))
      (pss_cons (ps_set (i := 5) scKind.nd rfl (.inl rfl) (pe_ifExp (pt_val (pv 3)) pe_str pe_str))
      (pss_one (ps_ret (pe_joined (PJ.cons pe_str (PJ.cons (pe_fmt (pv 1)) (PJ.cons pe_str (PJ.cons (pe_fmt (pv 2)) (PJ.cons pe_str (PJ.cons (pe_fmt (pv 5)) (PJ.cons pe_str (PJ.cons (pe_fmt (pe_call GT hr (by rfl) gT FT.kp bT .nil pass0 (pa_cons (pv 4) pa_nil))) PJ.nil)))))))))))), ?_⟩
    refine ⟨.ref p, rfl, p, _, rfl, hp, rfl, _, _, rfl, _, _, rfl, _, _, rfl, _, _, rfl, rfl, ?_⟩
    have fw := wordT_fit e.has
    have ff := feeT_fit k2
    have ft := tabT_fit k3 k4
    have h0 : Fit 0 Str.empty := ⟨Nat.le_refl _, fun c hc => by cases hc⟩
    have h1 := h0.app (fit_of "kind " (n := 5) (by decide))
    have h2 := h1.app k1
    have h3 := h2.app (fit_of " " (n := 1) (by decide))
    have h4 := h3.app ff
    have h5 := h4.app (fit_of " " (n := 1) (by decide))
    have h6 := h5.app fw
    have h7 := h6.app (fit_of " " (n := 1) (by decide))
    have h8 := h7.app ft
    have big : ∀ {n : Nat} {x : Str}, Fit n x → n ≤ 1000 → x.length ≤ sizeLine := fun h l => Nat.le_trans h.1 (Nat.le_of_lt (small' l))
    have el := line_chain e
    have ew : ∀ b : Bool, e.has = b → wordT e.has = wordT b := fun b z => by rw [z]
    refine ⟨_, rfl, e.has, rfl, ?_⟩
    cases hh : e.has
    all_goals
      first | refine iteT ?_ | refine iteF ?_
      rw [hh] at fw h6 h7 h8 el
      refine ⟨_, rfl, big h1 (by decide), _, rfl, .inl ⟨_, rfl, big k1 (by decide), _, rfl, big h2 (by decide), ?_⟩⟩
      refine ⟨_, rfl, big h3 (by decide), _, rfl, .inr ⟨_, rfl, fee_log k2, _, rfl, big h4 (by decide), ?_⟩⟩
      refine ⟨_, rfl, big h5 (by decide), _, rfl, .inl ⟨_, rfl, big fw (by decide), _, rfl, big h6 (by decide), ?_⟩⟩
      refine ⟨_, rfl, big h7 (by decide), .ref r, rfl, r, e.row, rfl, hq, k3, k4, .inl ⟨_, rfl, big ft (by decide), _, rfl, big h8 (by decide), ?_⟩⟩
      rw [← el] at q
      exact q
end
end Kn


namespace Kn
open PySem PySem.Spec PyProof.Rows L2
abbrev nJoin : List Str := ["_law_some", "_law_one"]
theorem scJoin : FnScope nJoin ["_law_some"] (defScope (topS 30)) := ⟨rfl, rfl, rfl, by decide +kernel, rfl, by decide +kernel, by decide +kernel⟩
abbrev nLine : List Str := ["_law_entry"]
theorem scLine : FnScope nLine ["_law_entry"] (defScope (topS 31)) := ⟨rfl, rfl, rfl, by decide +kernel, rfl, by decide +kernel, by decide +kernel⟩
abbrev nPage : List Str := ["_law_page_here", "_law_lines", "_law_entry"]
theorem scPage : FnScope nPage ["_law_page_here"] (defScope (topS 32)) := ⟨rfl, rfl, rfl, by decide +kernel, rfl, by decide +kernel, by decide +kernel⟩
/-- joined: of short flat things -/
def joinT (xs : List V) : Str := if xs = [] then ("-" : Str) else Str.join "," (xs.map shV)
def ShortV (v : V) : Prop := FlatV v ∧ Fit 61 (shV v)
def spJoin (K : PySem.W.Frag) : Sp := fun vs H Q _ => ∃ (a : Addr) (xs : List V), vs = [.ref a] ∧ SqT K H a xs ∧ xs.length ≤ 8 ∧ (∀ v ∈ xs, ShortV v) ∧ ∀ H', Same H H' → Q (.str (joinT xs)) H'
def spLine (K : PySem.W.Frag) : Sp := fun vs H Q _ => ∃ (v : V) (e : Ent), vs = [v] ∧ EntAt K H v e ∧ e.ok ∧ ∀ H', Same H H' → Q (.str (lineT e)) H'

theorem map_get {α β : Type} {f : α → β} {l : List α} {i : Nat} {y : β} (h : (l.map f)[i]? = some y) : ∃ x, l[i]? = some x ∧ f x = y := by
  rw [List.getElem?_map] at h
  exact Option.map_eq_some_iff.mp h
theorem shV_strs (t : List Str) : (t.map V.str).map shV = t := by
  rw [List.map_map]
  have e : shV ∘ V.str = id := rfl
  rw [e, List.map_id]
theorem joinT_str (t : List Str) : joinT (t.map V.str) = tabT t := by
  unfold joinT tabT
  cases t with
  | nil => rfl
  | cons x r => rw [if_neg (by simp), if_neg (by simp), shV_strs]
theorem joinT_int {t : List Int} (h : t ≠ []) : joinT (t.map V.int) = numT t := by
  unfold joinT numT
  rw [if_neg (by simpa using h), List.map_map]
  rfl
theorem short_str {z : Str} (h : Fit 8 z) : ShortV (.str z) := ⟨trivial, h.mono (by decide)⟩
theorem short_int {i : Int} (h : i.natAbs < 10 ^ 60) : ShortV (.int i) := ⟨fee_log h, feeT_fit h⟩
theorem seq_asg {te : TE} {g : TG} {u : TS} {D : Ends} {σ : L2.St} {H : Hp} (h : te σ H fun x H1 => g x σ H1 (u D)) : tSeq (tAsg te g) u D σ H := h
section
variable {P : Program} {w : World} {K : PySem.W.Frag} {mg : Str → Option Value} {base : Heap}

theorem ok_num {f : Addr} {fd : FuncData} (F : Fun K "numbers_text" "numbers_text" (topS 23) f fd) (ms : mg "str" = none) : FnOk P w K mg base CX0 1 f fd ["numbers"] (spNum K) := by
  refine F.ok scNum (fun vs H Q E h => ?_) (fun cdv A outer s H vs Q E hr h => ?_)
  · obtain ⟨a, t, rfl, _⟩ := h
    rfl
  · obtain ⟨a, t, rfl, hT, hl, hf, q⟩ := h
    refine ⟨_, pss_one (ps_ret (pe_join pe_str (pe_lc (own := [("number", 1)]) (g := gName 1) (by rfl) scNum.nd (pi_tup (pv 0)) (blkOk_by (own := [("number", 1)]) (N := nNum) (sc := defScope (topS 23)) (by decide +kernel))
      (fun _ _ _ _ _ => pg_name (i := 1) scNum.nd rfl (Or.inl rfl)) (fun _ _ _ _ _ => pts_nil) (fun _ _ _ _ _ => pe_callTy call_str_flat (by rfl) ms (by decide +kernel) (pa_cons (pv 1) pa_nil))))), ?_⟩
    refine ⟨⟨_, rfl⟩, ?_⟩
    refine lc_mapT (a := a) (xs := t.map V.int) (t.map fun i => V.str (feeT i)) (by simp) (by simp; omega) hT (fun R r => ⟨.ref a, rfl, r⟩) (fun v => rfl) ?_ ?_
    · intro i x y G R hx hy sm k
      obtain ⟨n, hn, rfl⟩ := map_get hx
      obtain ⟨n', hn', rfl⟩ := map_get hy
      obtain rfl : n = n' := Option.some.inj (hn.symm.trans hn')
      exact ⟨_, rfl, _, rfl, fee_log (hf n (List.mem_of_getElem? hn)), k G (Same.refl G)⟩
    · intro D G nD sm hD
      refine ⟨_, D, t.map feeT, rfl, rfl, .inl (.inl (.inl ?_)), join_room (n := 61) (m := 8) ?_ (by decide) (by simpa using hl) (by decide), ?_⟩
      · rw [hD, List.map_map]
        rfl
      · intro y hy
        obtain ⟨i, hi, rfl⟩ := List.mem_map.mp hy
        exact feeT_fit (hf i hi)
      · rw [TL.join_eq]
        exact q G sm

theorem ok_web {f fT fK : Addr} {fd fdT fdK : FuncData} (F : Fun K "web_text" "web_text" (topS 22) f fd) (FK : Fun K "kind_text" "kind_text" (topS 21) fK fdK) (bK : Binds K fdK ["kind"] []) (gK : mg "kind_text" = some (.ref fK))
    (FT : Fun K "table_text" "table_text" (topS 20) fT fdT) (bT : Binds K fdT ["table"] []) (gT : mg "table_text" = some (.ref fT)) (ml : mg "len" = none) : FnOk P w K mg base CX0 3 f fd ["web"] (spWeb K) := by
  have GK : FnOk P w K mg base CX0 2 fK fdK ["kind"] (spKind K) := ok_kind FK FT bT gT ml
  refine F.ok scWeb (fun vs H Q E h => ?_) (fun cdv A outer s H vs Q E hr h => ?_)
  · obtain ⟨v, g, rfl, _⟩ := h
    rfl
  · obtain ⟨v, g, rfl, ⟨p, r, ws, rfl, hp, hr', hE⟩, ok, q⟩ := h
    obtain ⟨o1, o2, o3⟩ := id ok
    have lw := hE.len
    refine ⟨_, pss_cons (ps_asg (pv 0) (pg_tup (by rfl) (pgs_cons (pg_name (i := 1) scWeb.nd rfl (.inl rfl)) (pgs_cons (pg_name (i := 2) scWeb.nd rfl (.inl rfl)) pgs_nil))))
      (pss_cons (ps_setLc (i := 3) (own := [("kind", 4)]) (g := gName 4) (by rfl) scWeb.nd rfl rfl (sw_true rfl rfl rfl (by decide +kernel)) (pi_tup (pv 1)) (blkOk_by (own := [("kind", 4)]) (N := nWeb) (sc := defScope (topS 22)) (by decide +kernel))
        (fun _ _ _ _ _ => pg_name (i := 4) scWeb.nd rfl (Or.inl rfl)) (fun _ _ _ _ _ => pts_nil) (fun _ _ _ _ _ => pe_call GK hr (by rfl) gK FK.kp bK .nil pass0 (pa_cons (pv 4) pa_nil)))
      (pss_one (ps_ret (pe_join pe_str (pe_lst (StX.pa_star (pv 3) (pa_cons (pe_joined (PJ.cons pe_str (PJ.cons (pe_fmt (pv 2)) PJ.nil))) pa_nil))))))), ?_⟩
    refine ⟨.ref p, rfl, p, _, rfl, hp, rfl, _, _, rfl, _, _, rfl, rfl, ?_⟩
    dsimp only
    refine seq_asg ?_
    refine lc_mapT (a := r) (xs := ws) (g.es.map fun e => V.str (lineT e)) (by simp; omega) (by omega) hr' (fun R r => ⟨_, rfl, r⟩) (fun v => rfl) ?_ ?_
    · intro i x y G R hx hy sm k
      obtain ⟨e, he, hv⟩ := hE.get hx
      obtain ⟨e', he', rfl⟩ := map_get hy
      obtain rfl : e = e' := Option.some.inj (he.symm.trans he')
      exact ⟨_, rfl, _, e, rfl, hv.same sm, o2 e (List.mem_of_getElem? he), k G (Same.refl G)⟩
    · intro D G nD sm hD
      have fa := askT_fit ok
      have ea : Str.empty ++ ("asker " : Str) ++ g.asks = ("asker " : Str) ++ g.asks := by rw [nil_app]
      refine ⟨⟨_, rfl⟩, .ref D, rfl, D, _, rfl, .inr (.inl (.inl hD)), _, rfl, ?_, _, rfl, .inl ⟨_, rfl, ?_, _, rfl, ?_, ?_, fun z nz => ?_⟩⟩
      · exact Nat.le_trans (fit_of "asker " (n := 6) (by decide)).1 (Nat.le_of_lt (small' (by decide)))
      · exact Nat.le_trans o3.1 (Nat.le_of_lt (small' (by decide)))
      · show (Str.empty ++ ("asker " : Str) ++ g.asks).length ≤ _
        rw [ea]
        exact Nat.le_trans fa.1 (Nat.le_of_lt (small' (by decide)))
      · refine Nat.le_of_lt (small' ?_)
        simp
        omega
      · refine ⟨_, z, g.es.map lineT ++ [("asker " : Str) ++ g.asks], rfl, rfl, .inl (.inl (.inl ?_)), join_room (n := 600) (m := 13) ?_ (by decide) (by simp; omega) (by decide), ?_⟩
        · rw [upd_same]
          show some (HO.lst (g.es.map (fun e => V.str (lineT e)) ++ [V.str (Str.empty ++ ("asker " : Str) ++ g.asks)])) = _
          rw [ea, List.map_append, List.map_map]
          rfl
        · intro y hy
          rcases List.mem_append.mp hy with hy | hy
          · obtain ⟨e, he, rfl⟩ := List.mem_map.mp hy
            exact lineT_fit (o2 e he)
          · obtain rfl := List.mem_singleton.mp hy
            exact fa
        · rw [TL.join_eq]
          exact q _ (putS sm (sm.free nz))
end
end Kn


namespace Kn
open PySem PySem.Spec PyProof.Rows L2
section
variable {P : Program} {w : World} {K : PySem.W.Frag} {mg : Str → Option Value} {base : Heap}
theorem big_of {n : Nat} {x : Str} (h : Fit n x) (l : n ≤ 100000) : x.length ≤ sizeLine := Nat.le_trans h.1 (Nat.le_trans l (by decide))

theorem ok_join {f : Addr} {fd : FuncData} (F : Fun K "_law_joined" "_law_joined" (topS 30) f fd) (ml : mg "len" = none) (ms : mg "str" = none) : FnOk P w K mg base CX0 1 f fd ["_law_some"] (spJoin K) := by
  refine F.ok scJoin (fun vs H Q E h => ?_) (fun cdv A outer s H vs Q E hr h => ?_)
  · obtain ⟨a, t, rfl, _⟩ := h
    rfl
  · obtain ⟨a, xs, rfl, hT, hl, hf, q⟩ := h
    refine ⟨_, pss_one (ps_ret (pe_ifExp (pt_cmpR op_gt (pe_callB call_len_seq (by rfl) ml PySem.boot_len (pa_cons (pv 0) pa_nil)) pe_int (nomark _))
      (pe_join pe_str (pe_lc (own := [("_law_one", 1)]) (g := gName 1) (by rfl) scJoin.nd (pi_tup (pv 0)) (blkOk_by (own := [("_law_one", 1)]) (N := nJoin) (sc := defScope (topS 30)) (by decide +kernel))
      (fun _ _ _ _ _ => pg_name (i := 1) scJoin.nd rfl (Or.inl rfl)) (fun _ _ _ _ _ => pts_nil) (fun _ _ _ _ _ => pe_callTy call_str_flat (by rfl) ms (by decide +kernel) (pa_cons (pv 1) pa_nil)))) pe_str)), ?_⟩
    refine ⟨.ref a, rfl, a, xs, rfl, .inr hT, _, _, rfl, rfl, _, rfl, ite2 (fun e => ?_) (fun e => ?_)⟩
    · have e0 := of_decide_eq_true e
      have ne : xs ≠ [] := fun z => by
        subst z
        exact absurd e0 (by decide)
      refine ⟨⟨_, rfl⟩, ?_⟩
      refine lc_mapT (a := a) (xs := xs) (xs.map fun v => V.str (shV v)) (by simp) (by omega) hT (fun R r => ⟨.ref a, rfl, r⟩) (fun v => rfl) ?_ ?_
      · intro i x y G R hx hy sm k
        obtain ⟨v, hv, rfl⟩ := map_get hy
        obtain rfl : x = v := Option.some.inj (hx.symm.trans hv)
        exact ⟨_, rfl, _, rfl, (hf x (List.mem_of_getElem? hx)).1, k G (Same.refl G)⟩
      · intro D G nD sm hD
        refine ⟨_, D, xs.map shV, rfl, rfl, .inl (.inl (.inl ?_)), join_room (n := 61) (m := 8) ?_ (by decide) (by simpa using hl) (by decide), ?_⟩
        · rw [hD, List.map_map]
          rfl
        · intro y hy
          obtain ⟨v, hv, rfl⟩ := List.mem_map.mp hy
          exact (hf v hv).2
        · have et : joinT xs = Txt.join "," (xs.map shV) := by
            unfold joinT
            rw [if_neg ne, TL.join_eq]
          rw [← et]
          exact q G sm
    · have et : xs = [] := by
        cases xs with
        | nil => rfl
        | cons x r =>
          refine absurd (decide_eq_true ?_) e
          rw [List.length_cons]
          omega
      subst et
      exact q H (Same.refl H)

theorem ok_line {f fJ : Addr} {fd fdJ : FuncData} (F : Fun K "_law_entry_line" "_law_entry_line" (topS 31) f fd) (FJ : Fun K "_law_joined" "_law_joined" (topS 30) fJ fdJ) (bJ : Binds K fdJ ["_law_some"] []) (gJ : mg "_law_joined" = some (.ref fJ)) (ml : mg "len" = none) (ms : mg "str" = none) :
    FnOk P w K mg base CX0 2 f fd ["_law_entry"] (spLine K) := by
  have GJ : FnOk P w K mg base CX0 1 fJ fdJ ["_law_some"] (spJoin K) := ok_join FJ ml ms
  refine F.ok scLine (fun vs H Q E h => ?_) (fun cdv A outer s H vs Q E hr h => ?_)
  · obtain ⟨v, e, rfl, _⟩ := h
    rfl
  · obtain ⟨v, e, rfl, ⟨p, r, rfl, hp, hq⟩, ⟨k1, k2, k3, k4⟩, q⟩ := h
    refine ⟨_, pss_one (ps_ret (pe_join pe_str (pe_lst (pa_cons pe_str (pa_cons (pe_ix ix_tup (pv 0) pe_int (fun _ _ => rfl)) (pa_cons (pe_callTy call_str_flat (by rfl) ms (by decide +kernel) (pa_cons (pe_ix ix_tup (pv 0) pe_int (fun _ _ => rfl)) pa_nil))
      (pa_cons (pe_ifExp (pt_val (pe_ix ix_tup (pv 0) pe_int (fun _ _ => rfl))) pe_str pe_str) (pa_cons (pe_call GJ hr (by rfl) gJ FJ.kp bJ .nil pass0 (pa_cons (pe_ix ix_tup (pv 0) pe_int (fun _ _ => rfl)) pa_nil)) pa_nil)))))))), ?_⟩
    refine ⟨⟨_, rfl⟩, ?_⟩
    refine ⟨.ref p, rfl, p, _, 0, .str e.name, rfl, rfl, hp, atI_nat (j := 0) rfl, .ref p, rfl, p, _, 1, .int e.fee, rfl, rfl, hp, atI_nat (j := 1) rfl, _, rfl, fee_log k2,
      .ref p, rfl, p, _, 2, .bl e.has, rfl, rfl, hp, atI_nat (j := 2) rfl, e.has, rfl, ?_⟩
    have fw := wordT_fit e.has
    have ff := feeT_fit k2
    have ft := tabT_fit k3 k4
    have el : lineT e = Txt.join " " ["kind", e.name, feeT e.fee, wordT e.has, tabT e.row] := by rw [TL.join_eq]; rfl
    cases hh : e.has
    all_goals
      first | refine iteT ?_ | refine iteF ?_
      refine ⟨.ref p, rfl, p, _, 3, .ref r, rfl, rfl, hp, atI_nat (j := 3) rfl, r, e.row.map V.str, rfl, hq, by simpa using k3, ?_, fun G sm => ⟨show 5 ≤ sizeLine by decide, fun z nz => ?_⟩⟩
      · intro v hv
        obtain ⟨z, hz, rfl⟩ := List.mem_map.mp hv
        exact short_str (k4 z hz)
      · refine ⟨_, z, ["kind", e.name, feeT e.fee, wordT e.has, tabT e.row], rfl, rfl, .inl (.inl (.inl ?_)), join_room (n := 100) (m := 5) ?_ (by decide) (Nat.le_refl 5) (by decide), ?_⟩
        · rw [upd_same, joinT_str, hh]
          rfl
        · intro x hx
          simp only [List.mem_cons, List.not_mem_nil, or_false] at hx
          rcases hx with rfl | rfl | rfl | rfl | rfl
          · exact (fit_of "kind" (n := 100) (by decide))
          · exact k1.mono (by omega)
          · exact ff.mono (by omega)
          · exact fw.mono (by omega)
          · exact ft
        · rw [← el]
          exact q _ (putS sm (sm.free nz))

theorem ok_page {f fL fJ : Addr} {fd fdL fdJ : FuncData} (F : Fun K "_law_page_text" "_law_page_text" (topS 32) f fd) (FL : Fun K "_law_entry_line" "_law_entry_line" (topS 31) fL fdL) (bL : Binds K fdL ["_law_entry"] []) (gL : mg "_law_entry_line" = some (.ref fL))
    (FJ : Fun K "_law_joined" "_law_joined" (topS 30) fJ fdJ) (bJ : Binds K fdJ ["_law_some"] []) (gJ : mg "_law_joined" = some (.ref fJ)) (ml : mg "len" = none) (ms : mg "str" = none) : FnOk P w K mg base CX0 3 f fd ["_law_page_here"] (spWeb K) := by
  have GL : FnOk P w K mg base CX0 2 fL fdL ["_law_entry"] (spLine K) := ok_line FL FJ bJ gJ ml ms
  refine F.ok scPage (fun vs H Q E h => ?_) (fun cdv A outer s H vs Q E hr h => ?_)
  · obtain ⟨v, g, rfl, _⟩ := h
    rfl
  · obtain ⟨v, g, rfl, ⟨p, r, ws, rfl, hp, hr', hE⟩, ok, q⟩ := h
    obtain ⟨o1, o2, o3⟩ := id ok
    have lw := hE.len
    refine ⟨_, pss_cons (ps_setLc (i := 1) (own := [("_law_entry", 2)]) (g := gName 2) (by rfl) scPage.nd rfl rfl (sw_true rfl rfl rfl (by decide +kernel)) (pi_tup (pe_ix ix_tup (pv 0) pe_int (fun _ _ => rfl))) (blkOk_by (own := [("_law_entry", 2)]) (N := nPage) (sc := defScope (topS 32)) (by decide +kernel))
        (fun _ _ _ _ _ => pg_name (i := 2) scPage.nd rfl (Or.inl rfl)) (fun _ _ _ _ _ => pts_nil) (fun _ _ _ _ _ => pe_call GL hr (by rfl) gL FL.kp bL .nil pass0 (pa_cons (pv 2) pa_nil)))
      (pss_one (ps_ret (pe_join pe_str (pe_op op_cat (pv 1) (pe_lst (pa_cons (pe_op op_add_str pe_str (pe_ix ix_tup (pv 0) pe_int (fun _ _ => rfl))) pa_nil)))))), ?_⟩
    refine seq_asg ?_
    refine lc_mapT (a := r) (xs := ws) (g.es.map fun e => V.str (lineT e)) (by simp; omega) (by omega) hr' (fun R k => ⟨.ref p, rfl, p, _, 0, .ref r, rfl, rfl, hp, atI_nat (j := 0) rfl, k⟩) (fun v => rfl) ?_ ?_
    · intro i x y G R hx hy sm k
      obtain ⟨e, he, hv⟩ := hE.get hx
      obtain ⟨e', he', rfl⟩ := map_get hy
      obtain rfl : e = e' := Option.some.inj (he.symm.trans he')
      exact ⟨_, rfl, _, e, rfl, hv.same sm, o2 e (List.mem_of_getElem? he), fun G' s' => k G' s'⟩
    · intro D G nD sm hD
      have fa := askT_fit ok
      refine ⟨⟨_, rfl⟩, .ref D, rfl, .ref p, rfl, p, _, 1, .str g.asks, rfl, rfl, tupS sm hp, atI_nat (j := 1) rfl, _, _, rfl, rfl, ?_, show 1 ≤ sizeLine by decide, fun z nz => ?_⟩
      · exact Nat.le_trans (Nat.add_le_add (fit_of "asker " (n := 6) (by decide)).1 o3.1) (by decide)
      · refine ⟨D, z, _, _, rfl, rfl, by rw [upd_ne (ne_of_none hD nz)]; exact hD, upd_same, ?_, fun y ny => ?_⟩
        · refine Nat.le_of_lt (small' ?_)
          simp
          omega
        · refine ⟨_, y, g.es.map lineT ++ [("asker " : Str) ++ g.asks], rfl, rfl, .inl (.inl (.inl ?_)), join_room (n := 600) (m := 13) ?_ (by decide) (by simp; omega) (by decide), ?_⟩
          · rw [upd_same, List.map_append, List.map_map]
            rfl
          · intro x hx
            rcases List.mem_append.mp hx with hx | hx
            · obtain ⟨e, he, rfl⟩ := List.mem_map.mp hx
              exact lineT_fit (o2 e he)
            · obtain rfl := List.mem_singleton.mp hx
              exact fa
          · rw [TL.join_eq]
            have s1 := putS sm (sm.free nz) (o := .lst [V.str (("asker " : Str) ++ g.asks)])
            exact q _ (putS s1 (Same.free s1 ny))
end
end Kn


namespace Kn
open PySem PySem.Spec PyProof.Rows L2
/-! ### the feed -/
abbrev kCells : Key := .inr "cells"
abbrev kAt : Key := .inr "at"
abbrev kHeld : Key := .inr "held"
abbrev kCount : Key := .inr "count"
theorem d1 : ¬ kCells = kAt := by decide +kernel
theorem d2 : ¬ kCells = kHeld := by decide +kernel
theorem d3 : ¬ kCells = kCount := by decide +kernel
theorem d4 : ¬ kAt = kHeld := by decide +kernel
theorem d5 : ¬ kAt = kCount := by decide +kernel
theorem d6 : ¬ kHeld = kCount := by decide +kernel
structure Four (a : Addr) (t h n : Int) (kvs : List (Key × V)) : Prop where
  few : kvs.length ≤ 4
  cells : valV kvs kCells = some (.ref a)
  at_ : valV kvs kAt = some (.int t)
  held : valV kvs kHeld = some (.int h)
  count : valV kvs kCount = some (.int n)
theorem putK_len {kvs : List (Key × V)} {k : Key} {x v : V} (h : valV kvs k = some x) : (putK kvs k v).length = kvs.length := by
  unfold putK
  rw [if_pos (by rw [valV_any, h]; rfl), List.length_map]
section
variable {a : Addr} {t h n : Int} {kvs : List (Key × V)}
theorem Four.put_at (q : Four a t h n kvs) (x : Int) : Four a x h n (putK kvs kAt (.int x)) :=
  ⟨by rw [putK_len q.at_]; exact q.few, by rw [valV_put, if_neg d1]; exact q.cells, by rw [valV_put, if_pos rfl], by rw [valV_put, if_neg fun e => d4 e.symm]; exact q.held, by rw [valV_put, if_neg fun e => d5 e.symm]; exact q.count⟩
theorem Four.put_held (q : Four a t h n kvs) (x : Int) : Four a t x n (putK kvs kHeld (.int x)) :=
  ⟨by rw [putK_len q.held]; exact q.few, by rw [valV_put, if_neg d2]; exact q.cells, by rw [valV_put, if_neg d4]; exact q.at_, by rw [valV_put, if_pos rfl], by rw [valV_put, if_neg fun e => d6 e.symm]; exact q.count⟩
theorem Four.put_count (q : Four a t h n kvs) (x : Int) : Four a t h x (putK kvs kCount (.int x)) :=
  ⟨by rw [putK_len q.count]; exact q.few, by rw [valV_put, if_neg d3]; exact q.cells, by rw [valV_put, if_neg d5]; exact q.at_, by rw [valV_put, if_neg d6]; exact q.held, by rw [valV_put, if_pos rfl]⟩
theorem four_new (a : Addr) : Four a 0 0 0 (mergeK [] [(kCells, .ref a), (kAt, .int 0), (kHeld, .int 0), (kCount, .int 0)]) := by
  have e : mergeK [] [(kCells, V.ref a), (kAt, .int 0), (kHeld, .int 0), (kCount, .int 0)] = putK (putK (putK (putK [] kCells (.ref a)) kAt (.int 0)) kHeld (.int 0)) kCount (.int 0) := rfl
  refine ⟨length_mergeK _ _, ?_, ?_, ?_, ?_⟩
  · rw [e, valV_put, if_neg d3, valV_put, if_neg d2, valV_put, if_neg d1, valV_put, if_pos rfl]
  · rw [e, valV_put, if_neg d5, valV_put, if_neg d4, valV_put, if_pos rfl]
  · rw [e, valV_put, if_neg d6, valV_put, if_pos rfl]
  · rw [e, valV_put, if_pos rfl]
end
/-- the feed at f, its cells at a; at most c draws were made -/
structure Fd (f a : Addr) (ns : List Int) (H : Hp) (c : Nat) : Prop where
  ex : ∃ kvs t h n, H f = some (.dK kvs) ∧ Four a t h n kvs ∧ 0 ≤ t ∧ t ≤ n ∧ n ≤ (c : Int)
  cl : H a = some (.lst (ns.map V.int))
  few : ns.length ≤ 63
def Keep (f : Addr) (H H' : Hp) : Prop := ∀ b o, b ≠ f → H b = some o → H' b = some o
theorem Keep.refl (f : Addr) (H : Hp) : Keep f H H := fun _ _ _ h => h
theorem Keep.trans {f : Addr} {H H1 H2 : Hp} (a : Keep f H H1) (b : Keep f H1 H2) : Keep f H H2 := fun c o n h => b c o n (a c o n h)
theorem keep_same {f : Addr} {H H1 : Hp} (s : Same H H1) : Keep f H H1 := fun b o _ h => s b o h
theorem keep_upd {f : Addr} {H : Hp} {o : HO} : Keep f H (upd H f o) := fun b x n h => by rw [upd_ne n]; exact h
theorem Fd.more {f a : Addr} {ns : List Int} {H : Hp} {c d : Nat} (h : Fd f a ns H c) (l : c ≤ d) : Fd f a ns H d := by
  obtain ⟨⟨kvs, t, x, n, h1, h2, h3, h4, h5⟩, h6, h7⟩ := h
  exact ⟨⟨kvs, t, x, n, h1, h2, h3, h4, by omega⟩, h6, h7⟩
theorem Fd.same {f a : Addr} {ns : List Int} {H H' : Hp} {c : Nat} (h : Fd f a ns H c) (s : Same H H') : Fd f a ns H' c := by
  obtain ⟨⟨kvs, t, x, n, h1, h2⟩, h6, h7⟩ := h
  exact ⟨⟨kvs, t, x, n, s _ _ h1, h2⟩, s _ _ h6, h7⟩
/-- a list of one's own changes -/
theorem Fd.own {f a D : Addr} {ns : List Int} {H : Hp} {c : Nat} {o : HO} (h : Fd f a ns H c) (n1 : f ≠ D) (n2 : a ≠ D) : Fd f a ns (upd H D o) c := by
  obtain ⟨⟨kvs, t, x, n, h1, h2⟩, h6, h7⟩ := h
  exact ⟨⟨kvs, t, x, n, by rw [upd_ne n1]; exact h1, h2⟩, by rw [upd_ne n2]; exact h6, h7⟩
theorem Fd.ne {f a : Addr} {ns : List Int} {H : Hp} {c : Nat} (h : Fd f a ns H c) : a ≠ f := by
  obtain ⟨⟨kvs, t, x, n, h1, _⟩, h6, _⟩ := h
  exact ne_of h6 h1 (by intro z; cases z)
theorem Fd.free {f a D : Addr} {ns : List Int} {H : Hp} {c : Nat} (h : Fd f a ns H c) (n : H D = none) : f ≠ D ∧ a ≠ D := by
  obtain ⟨⟨kvs, t, x, n', h1, _⟩, h6, _⟩ := h
  exact ⟨ne_of_none h1 n, ne_of_none h6 n⟩
/-- the feed's dict changes -/
theorem Fd.put {f a : Addr} {ns : List Int} {H : Hp} {c : Nat} {kvs : List (Key × V)} {t h n : Int} (q : Fd f a ns H c) (F : Four a t h n kvs) (h0 : 0 ≤ t) (h1 : t ≤ n) (h2 : n ≤ (c : Int)) : Fd f a ns (upd H f (.dK kvs)) c :=
  ⟨⟨kvs, t, h, n, upd_same, F, h0, h1, h2⟩, by rw [upd_ne q.ne]; exact q.cl, q.few⟩

theorem dpAll_ints {K : PySem.W.Frag} {H : Hp} : ∀ ns : List Int, DpAll K H (ns.map V.int) (ns.map PyData.int)
  | [] => .nil
  | n :: r => .cons (.int n) (dpAll_ints r)
end Kn


namespace Kn
open PySem PySem.Spec PyProof.Rows L2
abbrev nDraw : List Str := ["_law_feed", "_law_many", "_law_count", "_law_digit", "_law_cells", "_law_at", "_law_cell", "_law_mixed"]
theorem scDraw : FnScope nDraw ["_law_feed", "_law_many"] (defScope (topS 26)) := ⟨rfl, rfl, rfl, by decide +kernel, rfl, by decide +kernel, by decide +kernel⟩
theorem lay_ints : ∀ ns : List Int, PyData.canLayAll0 (ns.map PyData.int) = true
  | [] => rfl
  | n :: r => by
    show (PyData.canLay0 (.int n) && PyData.canLayAll0 (r.map PyData.int)) = true
    rw [lay_ints r]
    rfl
theorem depth_ints : ∀ ns : List Int, PyData.depthAll (ns.map PyData.int) = 0
  | [] => rfl
  | n :: r => by
    show max (PyData.depth (.int n)) (PyData.depthAll (r.map PyData.int)) = 0
    rw [depth_ints r]
    rfl
theorem shaped_ints (ns : List Int) : SeqAt.shaped (.list (ns.map PyData.int)) = true := by
  unfold SeqAt.shaped
  have h1 : PyData.canLay0 (.list (ns.map PyData.int)) = true := by
    show PyData.canLayAll0 (ns.map PyData.int) = true
    exact lay_ints ns
  have h2 : PyData.depth (.list (ns.map PyData.int)) = 1 := by
    show PyData.depthAll (ns.map PyData.int) + 1 = 1
    rw [depth_ints]
  rw [h1, h2]
  rfl
theorem eqv_nil_ints (ns : List Int) : PyData.eqv (.list (ns.map PyData.int)) (.list []) = ns.isEmpty := by
  cases ns with
  | nil => rfl
  | cons n r => rfl
theorem sq_bound {s : Int} (h0 : 0 ≤ s) (h1 : s ≤ 100001) : 0 ≤ 7121 * s * s ∧ 7121 * s * s ≤ 71211415787121 + 100000000000000 := by
  have a : 0 ≤ 7121 * s := by omega
  have b : 7121 * s ≤ 712107121 := by omega
  have c := Int.mul_nonneg a h0
  have d := Int.mul_le_mul b h1 h0 (by decide : (0 : Int) ≤ 712107121)
  exact ⟨c, Int.le_trans d (by decide)⟩
theorem at_mod {ns : List Int} {t : Int} (h : 0 ≤ t) (pos : 0 < ns.length) : ∃ x : Int, atI (ns.map V.int) (t % ((ns.map V.int).length : Int)) = some (.int x) := by
  rw [List.length_map]
  have h0 := Int.emod_nonneg t (show (ns.length : Int) ≠ 0 by omega)
  have h1 := Int.emod_lt_of_pos t (show (0 : Int) < (ns.length : Int) by omega)
  obtain ⟨j, hj⟩ := Int.eq_ofNat_of_zero_le h0
  rw [hj] at h1 ⊢
  have hl : j < ns.length := by omega
  refine ⟨ns[j], at_of rfl ?_⟩
  rw [List.getElem?_map, List.getElem?_eq_getElem hl]
  rfl
def spDraw : Sp := fun vs H Q _ => ∃ (f a : Addr) (ns : List Int) (c : Nat) (m : Int), vs = [.ref f, .int m] ∧ 0 < m ∧ m ≤ 1000 ∧ Fd f a ns H c ∧ c < 100000 ∧
  ∀ (r : Int) (H' : Hp), 0 ≤ r → r < m → Keep f H H' → Fd f a ns H' (c + 1) → Q (.int r) H'
section
variable {P : Program} {w : World} {K : PySem.W.Frag} {mg : Str → Option Value} {base : Heap}
theorem ok_draw {g : Addr} {fd : FuncData} (F : Fun K "_law_draw" "_law_draw" (topS 26) g fd) (mi : mg "int" = none) (ml : mg "len" = none) : FnOk P w K mg base CX0 1 g fd ["_law_feed", "_law_many"] spDraw := by
  refine F.ok scDraw (fun vs H Q E h => ?_) (fun cdv A outer s H vs Q E hr h => ?_)
  · obtain ⟨f, a, ns, c, m, rfl, _⟩ := h
    rfl
  · obtain ⟨f, a, ns, c, m, rfl, m0, m1, fd0, hc, q⟩ := h
    have hu := hu_of hr
    obtain ⟨kvs, t, hh, n, e1, four, t0, tn, nc⟩ := fd0.ex
    refine ⟨_, pss_cons (ps_set (i := 2) scDraw.nd rfl (.inl rfl) (pe_op op_add (pe_dget hu (pv 0) pe_str (fun _ _ => rfl)) pe_int))
      (pss_cons (ps_dput hu (pv 0) pe_str (pv 2) rfl)
      (pss_cons (ps_if (pt_cmpR op_gt (pe_dget hu (pv 0) pe_str (fun _ _ => rfl)) pe_int (nomark _))
        (pss_cons (ps_set (i := 3) scDraw.nd rfl (.inl rfl) (pe_op op_mod (pe_callTy call_int1 (by rfl) mi boot_int (pa_cons (pe_dget hu (pv 0) pe_str (fun _ _ => rfl)) pa_nil)) (pv 1)))
        (pss_cons (ps_dput hu (pv 0) pe_str (pe_op op_fdivN (pe_dget hu (pv 0) pe_str (fun _ _ => rfl)) (pv 1)) rfl)
        (pss_one (ps_ret (pv 3))))) pss_nil)
      (pss_cons (ps_par (i := 4) (j := 5) (by rfl) scDraw.nd rfl rfl (by decide) rfl rfl (pa_cons (pe_dget hu (pv 0) pe_str (fun _ _ => rfl)) (pa_cons (pe_dget hu (pv 0) pe_str (fun _ _ => rfl)) pa_nil)) (by rfl))
      (pss_cons (ps_dput hu (pv 0) pe_str (pe_op op_add (pv 5) pe_int) rfl)
      (pss_cons (ps_set (i := 6) scDraw.nd rfl (.inl rfl) (pe_ifExp (pt_cmpR (op_neD hr.units) (pv 4) (pe_lst pa_nil) (nomark _))
        (pe_ix ix_list (pv 4) (pe_op op_mod (pe_callTy call_int1 (by rfl) mi boot_int (pa_cons (pv 5) pa_nil)) (pe_callB call_len_seq (by rfl) ml PySem.boot_len (pa_cons (pv 4) pa_nil))) (fun _ _ => rfl)) pe_int))
      (pss_cons (ps_if (PW.pt (pw_and (pt_cmpR op_ge (pv 6) (pe_op op_pow pe_int pe_int) (nomark _)) (pw_and1 (pt_cmpR op_lt (pv 5) (pe_callB call_len_seq (by rfl) ml PySem.boot_len (pa_cons (pv 4) pa_nil)) (nomark _)))))
        (pss_cons (ps_dput hu (pv 0) pe_str (pe_op op_fdivN (pv 6) (pv 1)) rfl)
        (pss_one (ps_ret (pe_op op_mod (pe_callTy call_int1 (by rfl) mi boot_int (pa_cons (pv 6) pa_nil)) (pv 1))))) pss_nil)
      (pss_cons (ps_set (i := 7) scDraw.nd rfl (.inl rfl) (pe_op op_mod (pe_callTy call_int1 (by rfl) mi boot_int (pa_cons (pe_op op_pow
        (pe_op op_add (pe_op op_add (pe_op op_mod (pe_callTy call_int1 (by rfl) mi boot_int (pa_cons (pv 6) pa_nil)) pe_int) (pe_op op_mul pe_int (pv 2))) pe_int) pe_int) pa_nil)) pe_int))
      (pss_cons (ps_set (i := 7) scDraw.nd rfl (.inl rfl) (pe_op op_mod (pe_callTy call_int1 (by rfl) mi boot_int (pa_cons (pe_op op_pow
        (pe_op op_add (pe_op op_add (pv 7) (pe_op op_mul (pe_op op_mul pe_int (pv 2)) (pv 2))) pe_int) pe_int) pa_nil)) pe_int))
      (pss_one (ps_ret (pe_op op_mod (pe_callTy call_int1 (by rfl) mi boot_int (pa_cons (pe_op op_fdiv (pv 7) pe_int) pa_nil)) (pv 1)))))))))))), ?_⟩
    have n0 : 0 ≤ n := Int.le_trans t0 tn
    have dg : ∀ {H : Hp} {kvs : List (Key × V)} {k : Key} {v : V}, H f = some (.dK kvs) → valV kvs k = some v → DGet H f (kV k) (some v) := fun e z => by
      rw [← z]
      exact DGet.k e
    have four2 := four.put_count (n + 1)
    have fd2 : Fd f a ns (upd H f (.dK (putK kvs kCount (.int (n + 1))))) (c + 1) := (fd0.more (Nat.le_succ c)).put four2 t0 (by omega) (by omega)
    -- count
    refine ⟨_, rfl, f, .int n, rfl, dg (k := kCount) e1 four.count, n, 1, rfl, rfl, ?_⟩
    refine ⟨_, rfl, _, rfl, f, _, rfl, DPut.k (k := kCount) e1 (small' (Nat.le_trans four.few (by decide))), ?_⟩
    have k2 : Keep f H (upd H f (.dK (putK kvs kCount (.int (n + 1))))) := keep_upd
    have e2 : (upd H f (.dK (putK kvs kCount (.int (n + 1))))) f = some (.dK (putK kvs kCount (.int (n + 1)))) := upd_same
    generalize upd H f (.dK (putK kvs kCount (.int (n + 1)))) = H2 at fd2 e2 k2 ⊢
    generalize putK kvs kCount (.int (n + 1)) = kv2 at four2 e2
    have fw : 4 ≤ sizeLine := by decide
    have m3 : ∀ x : Int, 0 ≤ x % m ∧ x % m < m := fun x => ⟨Int.emod_nonneg _ (by omega), Int.emod_lt_of_pos _ m0⟩
    have cd : CDivN hh m := ⟨by omega, by omega⟩
    refine ⟨_, rfl, f, .int hh, rfl, dg (k := kHeld) e2 four2.held, hh, 0, rfl, rfl, _, rfl, ite2 (fun _ => ?_) (fun _ => ?_)⟩
    · -- a figure of what is held
      refine ⟨_, rfl, f, .int hh, rfl, dg (k := kHeld) e2 four2.held, .inl ⟨hh, rfl, _, rfl, hh, m, rfl, rfl, m0, ?_⟩⟩
      refine ⟨_, rfl, f, .int hh, rfl, dg (k := kHeld) e2 four2.held, _, rfl, hh, m, rfl, rfl, cd, ?_⟩
      refine ⟨_, rfl, f, _, rfl, DPut.k (k := kHeld) e2 (small' (Nat.le_trans four2.few (by decide))), ?_⟩
      exact ⟨_, rfl, q _ _ (m3 hh).1 (m3 hh).2 (k2.trans keep_upd) (fd2.put (four2.put_held _) t0 (by omega) (by omega))⟩
    · -- the next cell
      refine ⟨_, rfl, f, .ref a, rfl, dg (k := kCells) e2 four2.cells, _, rfl, f, .int t, rfl, dg (k := kAt) e2 four2.at_, _, _, rfl, ?_⟩
      have four3 := four2.put_at (t + 1)
      have fd3 := fd2.put four3 (by omega) (by omega) (by omega)
      have k3 := k2.trans (keep_upd (f := f) (H := H2) (o := .dK (putK kv2 kAt (.int (t + 1)))))
      have e3 : (upd H2 f (.dK (putK kv2 kAt (.int (t + 1))))) f = some (.dK (putK kv2 kAt (.int (t + 1)))) := upd_same
      refine ⟨_, rfl, t, 1, rfl, rfl, _, rfl, f, _, rfl, DPut.k (k := kAt) e2 (small' (Nat.le_trans four2.few (by decide))), ?_⟩
      generalize upd H2 f (.dK (putK kv2 kAt (.int (t + 1)))) = H3 at fd3 e3 k3 ⊢
      generalize putK kv2 kAt (.int (t + 1)) = kv3 at four3 e3
      have cl : SqL K H3 a (ns.map V.int) := .inl (.inl fd3.cl)
      refine ⟨.ref a, rfl, Nat.zero_le _, fun z nz => ⟨.list (ns.map PyData.int), .list [], .lst (.inl (.inl (by rw [upd_ne (fd3.free nz).2]; exact fd3.cl))) (dpAll_ints ns), .lst (.inl (.inl upd_same)) .nil, shaped_ints ns, rfl, _, rfl, ?_⟩⟩
      have k4 : Keep f H (upd H3 z (.lst [])) := k3.trans (keep_same (same_new nz))
      have fd4 : Fd f a ns (upd H3 z (.lst [])) (c + 1) := fd3.own (fd3.free nz).1 (fd3.free nz).2
      have e4 : (upd H3 z (.lst [])) f = some (.dK kv3) := by rw [upd_ne (fd3.free nz).1]; exact e3
      generalize upd H3 z (.lst []) = H4 at k4 fd4 e4 ⊢
      have cl4 : SqL K H4 a (ns.map V.int) := .inl (.inl fd4.cl)
      have s0 : 0 ≤ n + 1 := by omega
      have s1 : n + 1 ≤ 100001 := by omega
      have sq := sq_bound s0 s1
      rw [eqv_nil_ints]
      cases hns : ns.isEmpty
      case' false =>
        have pos : 0 < ns.length := by
          cases ns with
          | nil => cases hns
          | cons _ _ => exact Nat.succ_pos _
        obtain ⟨x, hx⟩ := at_mod (ns := ns) (t := t) t0 pos
        refine iteT ⟨.ref a, rfl, _, rfl, .inl ⟨t, rfl, .ref a, rfl, a, ns.map V.int, rfl, .inl cl4, t, _, rfl, rfl, (by rw [List.length_map]; omega), a, ns.map V.int, _, .int x, rfl, rfl, cl4, hx, ?_⟩⟩
      case' true =>
        refine iteF ?_
        show Ends.nx _ (List.set _ 6 (some (V.int 419))) H4
        generalize (419 : Int) = x
      all_goals
        have tail : ∀ (y : Int), 0 ≤ y → y < 2147483629 → (y + 7121 * (n + 1) * (n + 1) + 271).natAbs < 2 ^ 64 := fun y y0 y1 => by omega
        have head : (x % 1000000271 + 40127 * (n + 1) + 1087).natAbs < 2 ^ 64 := by
          have := Int.emod_nonneg x (show (1000000271 : Int) ≠ 0 by decide)
          have := Int.emod_lt_of_pos x (show (0 : Int) < 1000000271 by decide)
          omega
        have mids : ∀ u : Int, 0 ≤ u % 2147483629 ∧ u % 2147483629 < 2147483629 := fun u => ⟨Int.emod_nonneg _ (by decide), Int.emod_lt_of_pos _ (by decide)⟩
        refine ⟨_, rfl, 10, 18, rfl, rfl, ⟨by decide, by decide, by decide⟩, x, _, rfl, rfl, _, rfl, ite2 (fun _ => ⟨_, rfl, .ref a, rfl, a, _, rfl, .inl cl4, t, _, rfl, rfl, _, rfl, ite2 (fun _ => ?_) (fun _ => ?_)⟩) (fun _ => ?_)⟩
        · refine ⟨_, rfl, _, rfl, x, m, rfl, rfl, ⟨by omega, by omega⟩, _, rfl, f, _, rfl, DPut.k (k := kHeld) e4 (small' (Nat.le_trans four3.few (by decide))), ?_⟩
          exact ⟨_, rfl, .inl ⟨x, rfl, _, rfl, x, m, rfl, rfl, m0, q _ _ (m3 x).1 (m3 x).2 (k4.trans keep_upd) (fd4.put (four3.put_held _) (by omega) (by omega) (by omega))⟩⟩
        all_goals
          refine ⟨_, rfl, .inl ⟨x, rfl, x, _, rfl, rfl, (show (0 : Int) < 1000000271 by decide), _, rfl, _, n + 1, rfl, rfl, .inl ⟨by decide, by decide⟩, _, _, rfl, rfl, _, _, rfl, rfl, _, _, rfl, rfl, ⟨by decide, by decide, head⟩, .inl ⟨_, rfl, _, _, rfl, rfl, (show (0 : Int) < 2147483629 by decide), ?_⟩⟩⟩
          obtain ⟨y0, y1⟩ := mids ((x % 1000000271 + 40127 * (n + 1) + 1087) ^ (2 : Int).toNat)
          refine ⟨_, rfl, _, rfl, _, n + 1, rfl, rfl, .inl ⟨by decide, by decide⟩, _, rfl, _, n + 1, rfl, rfl, .inl ⟨by omega, by omega⟩, _, _, rfl, rfl, _, _, rfl, rfl, _, _, rfl, rfl, ⟨by decide, by decide, tail _ y0 y1⟩, .inl ⟨_, rfl, _, _, rfl, rfl, (show (0 : Int) < 2147483587 by decide), ?_⟩⟩
          exact ⟨_, rfl, _, _, rfl, rfl, ⟨by decide, by decide⟩, .inl ⟨_, rfl, _, rfl, _, m, rfl, rfl, m0, q _ _ (m3 _).1 (m3 _).2 k4 fd4⟩⟩
end
end Kn


namespace Kn
open PySem PySem.Spec PyProof.Rows L2
/-! ### what stays -/
def TS (H H' : Hp) : Prop := (∀ b xs, H b = some (.tup xs) → H' b = some (.tup xs)) ∧ ∀ b o xs, H b = some (.frz o (.tup xs)) → H' b = some (.frz o (.tup xs))
theorem TS.refl (H : Hp) : TS H H := ⟨fun _ _ h => h, fun _ _ _ h => h⟩
theorem TS.trans {H H1 H2 : Hp} (a : TS H H1) (b : TS H1 H2) : TS H H2 := ⟨fun c x h => b.1 c x (a.1 c x h), fun c o x h => b.2 c o x (a.2 c o x h)⟩
theorem ts_same {H H' : Hp} (s : Same H H') : TS H H' := ⟨fun b xs h => s b _ h, fun b o xs h => s b _ h⟩
theorem ts_keep {f : Addr} {H H' : Hp} {kvs : List (Key × V)} (e : H f = some (.dK kvs)) (k : Keep f H H') : TS H H' :=
  ⟨fun b xs h => k b _ (ne_of h e (by intro z; cases z)) h, fun b o xs h => k b _ (ne_of h e (by intro z; cases z)) h⟩
theorem ts_fd {f a : Addr} {ns : List Int} {H H' : Hp} {c : Nat} (d : Fd f a ns H c) (k : Keep f H H') : TS H H' := by
  obtain ⟨⟨kvs, t, x, n, h1, _⟩, _, _⟩ := d
  exact ts_keep h1 k
theorem ts_lst {D : Addr} {H : Hp} {acc : List V} {o : HO} (e : H D = some (.lst acc)) : TS H (upd H D o) :=
  ⟨fun b xs h => by rw [upd_ne (ne_of h e (by intro z; cases z))]; exact h, fun b o xs h => by rw [upd_ne (ne_of h e (by intro z; cases z))]; exact h⟩
theorem tupT {K : PySem.W.Frag} {H H' : Hp} {a : Addr} {xs : List V} (s : TS H H') (h : SqT K H a xs) : SqT K H' a xs := by
  rcases h with (h | ⟨o, h⟩) | h
  · exact .inl (.inl (s.1 _ _ h))
  · exact .inl (.inr ⟨o, s.2 _ _ _ h⟩)
  · exact .inr h
theorem EntAt.ts {K : PySem.W.Frag} {H H' : Hp} {v : V} {e : Ent} (s : TS H H') : EntAt K H v e → EntAt K H' v e := fun ⟨p, q, a, b, c⟩ => ⟨p, q, a, tupT s b, tupT s c⟩
theorem EntsAt.ts {K : PySem.W.Frag} {H H' : Hp} (s : TS H H') : ∀ {vs : List V} {es : List Ent}, EntsAt K H vs es → EntsAt K H' vs es
  | _, _, .nil => .nil
  | _, _, .cons a b => .cons (a.ts s) (EntsAt.ts s b)
theorem PgAt.ts {K : PySem.W.Frag} {H H' : Hp} {v : V} {g : Pg} (s : TS H H') : PgAt K H v g → PgAt K H' v g := fun ⟨p, q, vs, a, b, c, d⟩ => ⟨p, q, vs, a, tupT s b, tupT s c, d.ts s⟩
theorem fd_ne {f a p : Addr} {ns : List Int} {H : Hp} {c : Nat} {xs : List V} (d : Fd f a ns H c) (h : H p = some (.lst xs)) : p ≠ f := by
  obtain ⟨⟨kvs, t, x, n, h1, _⟩, _, _⟩ := d
  exact ne_of h h1 (by intro z; cases z)
theorem seqK {K : PySem.W.Frag} {f a p : Addr} {ns : List Int} {H H' : Hp} {c : Nat} {xs : List V} (d : Fd f a ns H c) (k : Keep f H H') (h : SqL K H p xs) : SqL K H' p xs := by
  obtain ⟨⟨kvs, t, x, n, h1, _⟩, _, _⟩ := d
  rcases h with (h | ⟨o, h⟩) | h
  · exact .inl (.inl (k _ _ (ne_of h h1 (by intro z; cases z)) h))
  · exact .inl (.inr ⟨o, k _ _ (ne_of h h1 (by intro z; cases z)) h⟩)
  · exact .inr h

abbrev nStart : List Str := ["_law_script"]
theorem scStart : FnScope nStart ["_law_script"] (defScope (topS 25)) := ⟨rfl, rfl, rfl, by decide +kernel, rfl, by decide +kernel, by decide +kernel⟩
abbrev nAny : List Str := ["_law_feed", "_law_some"]
theorem scAny : FnScope nAny ["_law_feed", "_law_some"] (defScope (topS 27)) := ⟨rfl, rfl, rfl, by decide +kernel, rfl, by decide +kernel, by decide +kernel⟩
abbrev nLab : List Str := ["_law_feed", "_law_many", "_law_pool", "_law_first", "_law_stride", "_law_k"]
theorem scLab : FnScope nLab ["_law_feed", "_law_many"] (defScope (topS 28)) := ⟨rfl, rfl, rfl, by decide +kernel, rfl, by decide +kernel, by decide +kernel⟩
def spStart (K : PySem.W.Frag) : Sp := fun vs H Q _ => ∃ (s : Addr) (ns : List Int), vs = [.ref s] ∧ SqL K H s (ns.map V.int) ∧ ns.length ≤ 63 ∧
  ∀ (f a : Addr) (ms : List Int) (H' : Hp), H f = none → Same H H' → Fd f a ms H' 0 → Q (.ref f) H'
def spAny (K : PySem.W.Frag) : Sp := fun vs H Q _ => ∃ (f a p : Addr) (ns : List Int) (c : Nat) (xs : List V), vs = [.ref f, .ref p] ∧ Fd f a ns H c ∧ c < 100000 ∧ SqL K H p xs ∧ 0 < xs.length ∧ xs.length ≤ 1000 ∧
  ∀ (x : V) (H' : Hp), x ∈ xs → Keep f H H' → Fd f a ns H' (c + 1) → Q x H'
def pool1 : List Str := ["a", "b", "c", "d", "e", "f", "g"]
def pool2 : List Str := ["ab", "a", "abc", "b", "ba", "z", "abcdefgh"]
def pool3 : List Str := ["kind", "asker", "has", "not", "store", "on", "guard"]
def pool4 : List Str := ["m", "zoo", "keeper", "s", "st", "zz", "note"]
def names : List Str := pool1 ++ pool2 ++ pool3 ++ pool4
theorem names_fit : ∀ y ∈ names, Fit 8 y := by
  have h : ∀ y ∈ names, y.length ≤ 8 ∧ y.cps.toList.all (fun c => decide (c < 16 ^ 8)) = true := by decide +kernel
  intro y hy
  obtain ⟨h1, h2⟩ := h y hy
  exact ⟨h1, fun c hc => of_decide_eq_true (List.all_eq_true.mp h2 c hc)⟩
/-! ### the order of names -/
def Lt (a b : Str) : Prop := ltCps a.cps.toList b.cps.toList = true
abbrev Asc (ys : List Str) : Prop := ys.Pairwise Lt
theorem lt_trans {a b c : Str} (ha : a ∈ names) (hb : b ∈ names) (hc : c ∈ names) (h : Lt a b) (k : Lt b c) : Lt a c := by
  have all : (names.all fun a => names.all fun b => !ltCps a.cps.toList b.cps.toList || names.all fun c => !ltCps b.cps.toList c.cps.toList || ltCps a.cps.toList c.cps.toList) = true := by decide +kernel
  have q := List.all_eq_true.mp (List.all_eq_true.mp all a ha) b hb
  rw [h, Bool.not_true, Bool.false_or] at q
  have q := List.all_eq_true.mp q c hc
  rw [k, Bool.not_true, Bool.false_or] at q
  exact q
theorem lt_total {a b : Str} (ha : a ∈ names) (hb : b ∈ names) (ne : a ≠ b) (h : ltCps b.cps.toList a.cps.toList = false) : Lt a b := by
  have all : (names.all fun a => names.all fun b => decide (a = b) || ltCps a.cps.toList b.cps.toList || ltCps b.cps.toList a.cps.toList) = true := by decide +kernel
  have q := List.all_eq_true.mp (List.all_eq_true.mp all a ha) b hb
  rw [decide_eq_false ne, h, Bool.false_or, Bool.or_false] at q
  exact q
theorem asc_rising : ∀ (r : List Str) (p : Str), risingS p r = true → (p :: r).Nodup → (∀ y ∈ p :: r, y ∈ names) → (p :: r).Pairwise Lt
  | [], _, _, _, _ => List.pairwise_singleton _ _
  | x :: r, p, h, nd, hn => by
    have h : (!ltCps x.cps.toList p.cps.toList && risingS x r) = true := h
    obtain ⟨h1, h2⟩ := Bool.and_eq_true_iff.mp h
    have nd2 := (List.nodup_cons.mp nd).2
    have npx : p ≠ x := fun z => (List.nodup_cons.mp nd).1 (z ▸ List.mem_cons_self ..)
    have hp := hn p (List.mem_cons_self ..)
    have hx := hn x (List.mem_cons_of_mem _ (List.mem_cons_self ..))
    have lpx : Lt p x := lt_total hp hx npx (by simpa using h1)
    have ih := asc_rising r x h2 nd2 (fun y hy => hn y (List.mem_cons_of_mem _ hy))
    refine List.pairwise_cons.mpr ⟨fun y hy => ?_, ih⟩
    rcases List.mem_cons.mp hy with rfl | hy
    · exact lpx
    · exact lt_trans hp hx (hn y (List.mem_cons_of_mem _ (List.mem_cons_of_mem _ hy))) lpx ((List.pairwise_cons.mp ih).1 y hy)
theorem asc_sorted {ys : List Str} (h : sortedS ys = true) (nd : ys.Nodup) (hn : ∀ y ∈ ys, y ∈ names) : Asc ys := by
  cases ys with
  | nil => exact List.Pairwise.nil
  | cons p r => exact asc_rising r p h nd hn
def pick (pool : List Str) (r u k : Nat) : Str := pool.getD ((r + k * (1 + u)) % 7) Str.empty
theorem pick_nodup {pool : List Str} (hp : pool ∈ [pool1, pool2, pool3, pool4]) {r u m : Nat} (hr : r < 7) (hu : u < 6) (hm : m ≤ 7) : ((List.range m).map (pick pool r u)).Nodup := by
  have all : ([pool1, pool2, pool3, pool4].all fun p => (List.range 7).all fun r => (List.range 6).all fun u => decide ((List.range 7).map (pick p r u)).Nodup) = true := by decide +kernel
  have q := of_decide_eq_true (List.all_eq_true.mp (List.all_eq_true.mp (List.all_eq_true.mp all pool hp) r (List.mem_range.mpr hr)) u (List.mem_range.mpr hu))
  refine List.Nodup.sublist (List.Sublist.map _ ?_) q
  have e : List.range m = (List.range 7).take m := by rw [List.take_range, Nat.min_eq_left hm]
  rw [e]
  exact List.take_sublist _ _
theorem pick_at {pool : List Str} (hl : pool.length = 7) {r u i j : Nat} (hj : ((r : Int) + (0 + (i : Int)) * (1 + (u : Int))) % 7 = (j : Int)) (h : j < pool.length) : pool[j] = pick pool r u i := by
  have e : (r : Int) + (0 + (i : Int)) * (1 + (u : Int)) = ((r + i * (1 + u) : Nat) : Int) := by
    rw [Int.natCast_add, Int.natCast_mul, Int.natCast_add, Int.zero_add]
    rfl
  rw [e] at hj
  have z : (r + i * (1 + u)) % 7 = j := by omega
  unfold pick
  rw [z, List.getD_eq_getElem?_getD, List.getElem?_eq_getElem h]
  rfl
def spLab : Sp := fun vs H Q _ => ∃ (f a : Addr) (ns : List Int) (c : Nat) (m : Nat), vs = [.ref f, .int m] ∧ m ≤ 7 ∧ Fd f a ns H c ∧ c < 90000 ∧
  ∀ (ys : List Str) (q : Addr) (H' : Hp), H q = none → H' q = some (.lst (ys.map V.str)) → ys.length = m → (∀ y ∈ ys, y ∈ names) → Asc ys → Keep f H H' → Fd f a ns H' (c + 3) → Q (.ref q) H'
section
variable {P : Program} {w : World} {K : PySem.W.Frag} {mg : Str → Option Value} {base : Heap}
theorem ok_start {g : Addr} {fd : FuncData} (F : Fun K "_law_start" "_law_start" (topS 25) g fd) : FnOk P w K mg base CX0 1 g fd ["_law_script"] (spStart K) := by
  refine F.ok scStart (fun vs H Q E h => ?_) (fun cdv A outer s H vs Q E hr h => ?_)
  · obtain ⟨s, ns, rfl, _⟩ := h
    rfl
  · obtain ⟨s, ns, rfl, hS, hl, q⟩ := h
    refine ⟨_, pss_one (ps_ret (pe_disp (pps_cons pe_str (pe_slice sl_list (pv 0) po_none (po_some pe_int)) (pps_cons pe_str pe_int (pps_cons pe_str pe_int (pps_cons pe_str pe_int pps_nil)))) (by rfl) (by rfl) (fun z => by cases z) (by decide))), ?_⟩
    intro f nf
    refine ⟨.ref s, rfl, 63, rfl, s, _, rfl, (same_new nf).seq hS, fun a na => ?_⟩
    have nfa : f ≠ a := ne_of_none (upd_same (H := H) (a := f) (o := .dK [])) na
    have na0 : H a = none := (same_new nf).free na
    refine ⟨by rw [upd_ne nfa]; exact upd_same, [(kCells, .ref a), (kAt, .int 0), (kHeld, .int 0), (kCount, .int 0)], rfl, (show 4 ≤ 15 by decide), ?_⟩
    refine q f a ((ns.drop (HT.sIx (ns.map V.int).length 0 none)).take (HT.sIx (ns.map V.int).length (ns.map V.int).length (some 63) - HT.sIx (ns.map V.int).length 0 none)) _ nf ?_ ⟨⟨_, 0, 0, 0, upd_same, four_new a, by decide, by decide, by decide⟩, ?_, ?_⟩
    · exact putS (putS (same_new nf) na0) nf
    · rw [upd_ne nfa.symm, upd_same]
      unfold cutV
      rw [List.map_take, List.map_drop]
    · rw [List.length_take, List.length_drop]
      omega
theorem ok_any {g gD : Addr} {fd fdD : FuncData} (F : Fun K "_law_any" "_law_any" (topS 27) g fd) (FD : Fun K "_law_draw" "_law_draw" (topS 26) gD fdD) (bD : Binds K fdD ["_law_feed", "_law_many"] []) (mD : mg "_law_draw" = some (.ref gD)) (mi : mg "int" = none) (ml : mg "len" = none) :
    FnOk P w K mg base CX0 2 g fd ["_law_feed", "_law_some"] (spAny K) := by
  have GD : FnOk P w K mg base CX0 1 gD fdD ["_law_feed", "_law_many"] spDraw := ok_draw FD mi ml
  refine F.ok scAny (fun vs H Q E h => ?_) (fun cdv A outer s H vs Q E hr h => ?_)
  · obtain ⟨f, a, p, ns, c, xs, rfl, _⟩ := h
    rfl
  · obtain ⟨f, a, p, ns, c, xs, rfl, fd0, hc, hL, l0, l1, q⟩ := h
    refine ⟨_, pss_one (ps_ret (pe_ix ix_list (pv 1) (pe_call GD hr (by rfl) mD FD.kp bD .nil pass0 (pa_cons (pv 0) (pa_cons (pe_callB call_len_seq (by rfl) ml PySem.boot_len (pa_cons (pv 1) pa_nil)) pa_nil))) (fun _ _ => rfl))), ?_⟩
    refine ⟨.ref p, rfl, .ref f, rfl, .ref p, rfl, p, xs, rfl, .inl hL, f, a, ns, c, _, rfl, by omega, by omega, fd0, hc, fun r H' r0 r1 k fd1 => ?_⟩
    obtain ⟨j, rfl⟩ := Int.eq_ofNat_of_zero_le r0
    have hj : j < xs.length := by omega
    exact ⟨p, xs, _, xs[j], rfl, rfl, seqK fd0 k hL, at_of rfl (List.getElem?_eq_getElem hj), q _ H' (List.getElem_mem hj) k fd1⟩
theorem ok_lab {g gD gA : Addr} {fd fdD fdA : FuncData} (F : Fun K "_law_labels" "_law_labels" (topS 28) g fd) (FA : Fun K "_law_any" "_law_any" (topS 27) gA fdA) (bA : Binds K fdA ["_law_feed", "_law_some"] []) (mA : mg "_law_any" = some (.ref gA))
    (FD : Fun K "_law_draw" "_law_draw" (topS 26) gD fdD) (bD : Binds K fdD ["_law_feed", "_law_many"] []) (mD : mg "_law_draw" = some (.ref gD)) (mi : mg "int" = none) (ml : mg "len" = none) (mr : mg "range" = none) (mo : mg "sorted" = none) :
    FnOk P w K mg base CX0 3 g fd ["_law_feed", "_law_many"] spLab := by
  have GD : FnOk P w K mg base CX0 1 gD fdD ["_law_feed", "_law_many"] spDraw := ok_draw FD mi ml
  have GA : FnOk P w K mg base CX0 2 gA fdA ["_law_feed", "_law_some"] (spAny K) := ok_any FA FD bD mD mi ml
  refine F.ok scLab (fun vs H Q E h => ?_) (fun cdv A outer s H vs Q E hr h => ?_)
  · obtain ⟨f, a, ns, c, m, rfl, _⟩ := h
    rfl
  · obtain ⟨f, a, ns, c, m, rfl, hm, fd0, hc, q⟩ := h
    have hr1 : Room 1 _ := hr.mono (by decide)
    refine ⟨_, pss_cons (ps_set (i := 2) scLab.nd rfl (.inr rfl) (pe_call GA hr (by rfl) mA FA.kp bA .nil pass0 (pa_cons (pv 0) (pa_cons
        (pe_lst (pa_cons (pe_lst (pa_cons pe_str (pa_cons pe_str (pa_cons pe_str (pa_cons pe_str (pa_cons pe_str (pa_cons pe_str (pa_cons pe_str pa_nil))))))))
          (pa_cons (pe_lst (pa_cons pe_str (pa_cons pe_str (pa_cons pe_str (pa_cons pe_str (pa_cons pe_str (pa_cons pe_str (pa_cons pe_str pa_nil))))))))
          (pa_cons (pe_lst (pa_cons pe_str (pa_cons pe_str (pa_cons pe_str (pa_cons pe_str (pa_cons pe_str (pa_cons pe_str (pa_cons pe_str pa_nil))))))))
          (pa_cons (pe_lst (pa_cons pe_str (pa_cons pe_str (pa_cons pe_str (pa_cons pe_str (pa_cons pe_str (pa_cons pe_str (pa_cons pe_str pa_nil)))))))) pa_nil))))) pa_nil))))
      (pss_cons (ps_asg (pe_tup (pa_cons (pe_call GD hr1 (by rfl) mD FD.kp bD .nil pass0 (pa_cons (pv 0) (pa_cons pe_int pa_nil))) (pa_cons (pe_op op_add pe_int (pe_call GD hr1 (by rfl) mD FD.kp bD .nil pass0 (pa_cons (pv 0) (pa_cons pe_int pa_nil)))) pa_nil)))
        (pg_tup (by rfl) (pgs_cons (pg_name (i := 3) scLab.nd rfl (.inr rfl)) (pgs_cons (pg_name (i := 4) scLab.nd rfl (.inr rfl)) pgs_nil))))
      (pss_one (ps_ret (pe_callB cr_sortedS (by rfl) mo (by decide +kernel) (pa_cons (pe_lc (own := [("_law_k", 5)]) (g := gName 5) (by rfl) scLab.nd (pi_range1 (by rfl) mr (pa_cons (pv 1) pa_nil)) (blkOk_by (own := [("_law_k", 5)]) (N := nLab) (sc := defScope (topS 28)) (by decide +kernel))
        (fun _ _ _ _ _ => pg_name (i := 5) scLab.nd rfl (Or.inl rfl)) (fun _ _ _ _ _ => pts_nil) (fun _ _ _ _ _ => pe_ix (r := rIxL K) ix_list (pv 2) (pe_op op_mod (pe_callTy call_int1 (by rfl) mi boot_int (pa_cons (pe_op op_add (pv 3) (pe_op op_mul (pv 5) (pv 4))) pa_nil)) pe_int) (fun _ _ => rfl))) pa_nil))))), ?_⟩
    -- the pools
    refine ⟨.ref f, rfl, (show 7 ≤ sizeLine by decide), fun p1 n1 => ⟨(show 7 ≤ sizeLine by decide), fun p2 n2 => ⟨(show 7 ≤ sizeLine by decide), fun p3 n3 => ⟨(show 7 ≤ sizeLine by decide), fun p4 n4 => ⟨(show 4 ≤ sizeLine by decide), fun p0 n0 => ?_⟩⟩⟩⟩⟩
    have s1 : Same H (upd H p1 (.lst (pool1.map V.str))) := same_new n1
    have s2 : Same _ (upd (upd H p1 (.lst (pool1.map V.str))) p2 (.lst (pool2.map V.str))) := same_new n2
    have s3 : Same _ (upd (upd (upd H p1 (.lst (pool1.map V.str))) p2 (.lst (pool2.map V.str))) p3 (.lst (pool3.map V.str))) := same_new n3
    have s4 : Same _ (upd (upd (upd (upd H p1 (.lst (pool1.map V.str))) p2 (.lst (pool2.map V.str))) p3 (.lst (pool3.map V.str))) p4 (.lst (pool4.map V.str))) := same_new n4
    have s0 : Same _ (upd (upd (upd (upd (upd H p1 (.lst (pool1.map V.str))) p2 (.lst (pool2.map V.str))) p3 (.lst (pool3.map V.str))) p4 (.lst (pool4.map V.str))) p0 (.lst [.ref p1, .ref p2, .ref p3, .ref p4])) := same_new n0
    have e1 := s0 _ _ (s4 _ _ (s3 _ _ (s2 _ _ (upd_same (H := H) (a := p1) (o := .lst (pool1.map V.str))))))
    have e2 := s0 _ _ (s4 _ _ (s3 _ _ (upd_same (a := p2) (o := .lst (pool2.map V.str)))))
    have e3 := s0 _ _ (s4 _ _ (upd_same (a := p3) (o := .lst (pool3.map V.str))))
    have e4 := s0 _ _ (upd_same (a := p4) (o := .lst (pool4.map V.str)))
    have sm := (((s1.trans s2).trans s3).trans s4).trans s0
    have fd5 := fd0.same sm
    refine ⟨f, a, p0, ns, c, [.ref p1, .ref p2, .ref p3, .ref p4], rfl, fd5, by omega, .inl (.inl upd_same), (show 0 < 4 by decide), (show 4 ≤ 1000 by decide), fun x H6 hx k6 fd6 => ?_⟩
    obtain ⟨pp, pool, rfl, ep, lp, hp, hpool⟩ : ∃ (pp : Addr) (pool : List Str), x = .ref pp ∧ H6 pp = some (.lst (pool.map V.str)) ∧ pool.length = 7 ∧ (∀ y ∈ pool, y ∈ names) ∧ pool ∈ [pool1, pool2, pool3, pool4] := by
      simp only [List.mem_cons, List.not_mem_nil, or_false] at hx
      rcases hx with rfl | rfl | rfl | rfl
      · exact ⟨p1, pool1, rfl, k6 _ _ (fd_ne fd5 e1) e1, rfl, fun y hy => List.mem_append_left _ (List.mem_append_left _ (List.mem_append_left _ hy)), by simp⟩
      · exact ⟨p2, pool2, rfl, k6 _ _ (fd_ne fd5 e2) e2, rfl, fun y hy => List.mem_append_left _ (List.mem_append_left _ (List.mem_append_right _ hy)), by simp⟩
      · exact ⟨p3, pool3, rfl, k6 _ _ (fd_ne fd5 e3) e3, rfl, fun y hy => List.mem_append_left _ (List.mem_append_right _ hy), by simp⟩
      · exact ⟨p4, pool4, rfl, k6 _ _ (fd_ne fd5 e4) e4, rfl, fun y hy => List.mem_append_right _ hy, by simp⟩
    have kk6 : Keep f H H6 := (keep_same sm).trans k6
    clear e1 e2 e3 e4 s1 s2 s3 s4 s0 sm
    -- the two draws
    refine ⟨.ref f, rfl, f, a, ns, c + 1, 7, rfl, by decide, by decide, fd6, by omega, fun r H7 r0 r1 k7 fd7 => ?_⟩
    refine ⟨.ref f, rfl, f, a, ns, c + 2, 6, rfl, by decide, by decide, fd7, by omega, fun u H8 u0 u1 k8 fd8 => ⟨1, u, rfl, rfl, (show 2 ≤ sizeLine by decide), fun t nt => ?_⟩⟩
    refine ⟨t, _, rfl, .inl (.inl upd_same), rfl, _, _, rfl, _, _, rfl, rfl, ?_⟩
    have k9 : Keep f H (upd H8 t (.tup [V.int r, V.int (1 + u)])) := ((kk6.trans k7).trans k8).trans (keep_same (same_new nt))
    have fd9 := fd8.same (same_new (o := .tup [V.int r, V.int (1 + u)]) nt)
    have ep8 := k8 _ _ (fd_ne fd6 ep) (k7 _ _ (fd_ne fd6 ep) ep)
    have ep9 : (upd H8 t (.tup [V.int r, V.int (1 + u)])) pp = some (.lst (pool.map V.str)) := same_new nt _ _ ep8
    generalize upd H8 t (.tup [V.int r, V.int (1 + u)]) = H9 at k9 fd9 ep9 ⊢
    obtain ⟨rn, hrn⟩ := Int.eq_ofNat_of_zero_le r0
    obtain ⟨un, hun⟩ := Int.eq_ofNat_of_zero_le u0
    -- the labels
    refine ⟨_, rfl, m, rfl, by omega, by omega, fun D nD => ?_⟩
    refine lc_range (lo := 0) (n := (m : Int).toNat) (fun i G => Same H9 G ∧ ∃ ys : List Str, G D = some (.lst (ys.map V.str)) ∧ ys.length = i ∧ (∀ y ∈ ys, y ∈ names) ∧ ys = (List.range i).map (pick pool rn un)) ⟨same_new nD, [], upd_same, rfl, (fun y hy => by cases hy), rfl⟩ ?_ ?_
    · rintro i G hi ⟨sG, ys, hD, hl, hy, hys⟩
      rw [Int.toNat_natCast] at hi
      refine ⟨rfl, ?_⟩
      simp only [tYes, ↓reduceIte]
      have z0 := Int.emod_nonneg (r + (0 + (i : Int)) * (1 + u)) (show (7 : Int) ≠ 0 by decide)
      have z1 := Int.emod_lt_of_pos (r + (0 + (i : Int)) * (1 + u)) (show (0 : Int) < 7 by decide)
      obtain ⟨j, hj⟩ := Int.eq_ofNat_of_zero_le z0
      have hjl : j < pool.length := by omega
      refine ⟨_, rfl, _, rfl, _, rfl, _, rfl, _, _, rfl, rfl, .inl ⟨by omega, by omega⟩, _, _, rfl, rfl, .inl ⟨_, rfl, _, _, rfl, rfl, (show (0 : Int) < 7 by decide), pp, pool.map V.str, _, .str pool[j], rfl, rfl, .inl (.inl (sG _ _ ep9)), at_of hj ?_, ys.map V.str, hD, ?_, ?_, ys ++ [pool[j]], ?_, ?_, ?_, ?_⟩⟩
      · rw [List.getElem?_map, List.getElem?_eq_getElem hjl]
        rfl
      · rw [List.length_map]
        exact small' (by omega)
      · exact putS sG nD
      · rw [upd_same, List.map_append]
        rfl
      · rw [List.length_append, hl]
        rfl
      · intro y hy'
        rcases List.mem_append.mp hy' with h | h
        · exact hy y h
        · rw [List.mem_singleton.mp h]
          exact hp _ (List.getElem_mem hjl)
      · rw [List.range_succ, List.map_append, ← hys, List.map_singleton]
        rw [hrn, hun] at hj
        rw [pick_at lp hj hjl]
    · rintro G ⟨sG, ys, hD, hl, hy, hys⟩
      rw [Int.toNat_natCast] at hl hys
      have ndy : ys.Nodup := by
        rw [hys]
        exact pick_nodup hpool (by omega) (by omega) hm
      refine ⟨D, ys, rfl, .inl (.inl hD), by omega, fun zs p perm srt np => ?_⟩
      have sp := putS (o := .lst (zs.map V.str)) sG (sG.free np)
      refine q zs p _ ?_ upd_same (by rw [perm.length_eq, hl]) (fun y hz => hy y (perm.mem_iff.mp hz)) (asc_sorted srt (perm.nodup_iff.mpr ndy) (fun y hz => hy y (perm.mem_iff.mp hz))) (k9.trans (keep_same sp)) ((fd9.same sp).more (by omega))
      cases hpH : H p with
      | none => rfl
      | some o =>
        by_cases hpf : p = f
        · subst hpf
          exact absurd rfl ((fd9.same sG).free np).1
        · have := sG _ _ (k9 _ _ hpf hpH)
          rw [np] at this
          cases this
end
end Kn


namespace Kn
open PySem PySem.Spec PyProof.Rows L2
abbrev nPg : List Str := ["_law_feed", "_law_most", "_law_labels_here", "_law_asks", "_law_entries", "_law_label", "_law_holds", "_law_row", "_law_mate"]
theorem scPg : FnScope nPg ["_law_feed", "_law_most"] (defScope (topS 29)) := ⟨rfl, rfl, rfl, by decide +kernel, rfl, by decide +kernel, by decide +kernel⟩
def fees9 : List Int := [1, 1, 1, 2, 3, 9, 10, 12, 10 ^ (59 : Int).toNat]
def feesAll : List Int := [1, 2, 3, 9, 10, 12, 99, 100, 12345678901, 10 ^ (59 : Int).toNat, 10 ^ (60 : Int).toNat - 1]
theorem fees9_all : ∀ i ∈ fees9, i ∈ feesAll := by decide +kernel
theorem feesAll_ok : ∀ i ∈ feesAll, i.natAbs < 10 ^ 60 := by decide +kernel
def Ent.nice (e : Ent) : Prop := e.name ∈ names ∧ e.fee ∈ feesAll ∧ (∀ s ∈ e.row, s ∈ names) ∧ Asc e.row
def spPg (K : PySem.W.Frag) : Sp := fun vs H Q _ => ∃ (f a : Addr) (ns : List Int) (c : Nat) (m : Int), vs = [.ref f, .int m] ∧ 0 < m ∧ m ≤ 5 ∧ Fd f a ns H c ∧ c < 80000 ∧
  ∀ (v : V) (g : Pg) (H' : Hp), PgAt K H' v g → g.ok → (∀ e ∈ g.es, e.nice) → g.asks ∈ names → 0 < g.es.length → g.es.length ≤ 5 → Keep f H H' → Fd f a ns H' (c + 60) → Q v H'
theorem ne_free {f a p : Addr} {ns : List Int} {H G : Hp} {c : Nat} (d : Fd f a ns G c) (k : Keep f H G) (n : G p = none) : H p = none := by
  cases e : H p with
  | none => rfl
  | some o =>
    by_cases hpf : p = f
    · subst hpf
      exact absurd rfl (d.free n).1
    · have := k _ _ hpf e
      rw [n] at this
      cases this
theorem fees9_ok : ∀ i ∈ fees9, i.natAbs < 10 ^ 60 := by decide +kernel
section
variable {P : Program} {w : World} {K : PySem.W.Frag} {mg : Str → Option Value} {base : Heap}
theorem ok_pg {g gD gA gL : Addr} {fd fdD fdA fdL : FuncData} (F : Fun K "_law_page" "_law_page" (topS 29) g fd)
    (FL : Fun K "_law_labels" "_law_labels" (topS 28) gL fdL) (bL : Binds K fdL ["_law_feed", "_law_many"] []) (mL : mg "_law_labels" = some (.ref gL))
    (FA : Fun K "_law_any" "_law_any" (topS 27) gA fdA) (bA : Binds K fdA ["_law_feed", "_law_some"] []) (mA : mg "_law_any" = some (.ref gA))
    (FD : Fun K "_law_draw" "_law_draw" (topS 26) gD fdD) (bD : Binds K fdD ["_law_feed", "_law_many"] []) (mD : mg "_law_draw" = some (.ref gD)) (mi : mg "int" = none) (ml : mg "len" = none) (mr : mg "range" = none) (mo : mg "sorted" = none) (mt : mg "tuple" = none) :
    FnOk P w K mg base CX0 4 g fd ["_law_feed", "_law_most"] (spPg K) := by
  have GD : FnOk P w K mg base CX0 1 gD fdD ["_law_feed", "_law_many"] spDraw := ok_draw FD mi ml
  have GA : FnOk P w K mg base CX0 2 gA fdA ["_law_feed", "_law_some"] (spAny K) := ok_any FA FD bD mD mi ml
  have GL : FnOk P w K mg base CX0 3 gL fdL ["_law_feed", "_law_many"] spLab := ok_lab FL FA bA mA FD bD mD mi ml mr mo
  refine F.ok scPg (fun vs H Q E h => ?_) (fun cdv A outer s H vs Q E hr h => ?_)
  · obtain ⟨f, a, ns, c, m, rfl, _⟩ := h
    rfl
  · obtain ⟨f, a, ns, c, m, rfl, m0, m1, fd0, hc, q⟩ := h
    have hr1 : Room 1 _ := hr.mono (by decide)
    have hr2 : Room 2 _ := hr.mono (by decide)
    refine ⟨_, pss_cons (ps_set (i := 2) scPg.nd rfl (.inl rfl) (pe_call GL hr (by rfl) mL FL.kp bL .nil pass0 (pa_cons (pv 0) (pa_cons (pe_op op_add pe_int (pe_call GD hr1 (by rfl) mD FD.kp bD .nil pass0 (pa_cons (pv 0) (pa_cons (pv 1) pa_nil)))) pa_nil))))
      (pss_cons (ps_par (i := 3) (j := 4) (by rfl) scPg.nd rfl rfl (by decide) rfl rfl (pa_cons (pe_call GA hr2 (by rfl) mA FA.kp bA .nil pass0 (pa_cons (pv 0) (pa_cons (pv 2) pa_nil))) (pa_cons (pe_lst pa_nil) pa_nil)) (by rfl))
      (pss_cons (ps_for PassesOwn.never rfl (pi_list (pv 2)) (pg_name (i := 5) scPg.nd rfl (.inl rfl))
        (pss_cons (ps_set (i := 6) scPg.nd rfl (.inl rfl) (pe_and (pe_cmpR op_eq (pe_call GD hr1 (by rfl) mD FD.kp bD .nil pass0 (pa_cons (pv 0) (pa_cons pe_int pa_nil))) pe_int (nomark _)) (pe_one (pe_cmpR op_ne (pv 5) (pv 3) (nomark _)))))
        (pss_cons (ps_setLc (i := 7) (own := [("_law_mate", 8)]) (g := gName 8) (by rfl) scPg.nd rfl rfl (sw_true rfl rfl rfl (by decide +kernel)) (pi_list (pv 2)) (blkOk_by (own := [("_law_mate", 8)]) (N := nPg) (sc := defScope (topS 29)) (by decide +kernel))
          (fun _ _ _ _ _ => pg_name (i := 8) scPg.nd rfl (Or.inl rfl)) (fun _ _ _ _ _ => pts_one (pt_cmpR op_eq (pe_call GD hr1 (by rfl) mD FD.kp bD .nil pass0 (pa_cons (pv 0) (pa_cons pe_int pa_nil))) pe_int (nomark _))) (fun _ _ _ _ _ => pv 8))
        (pss_one (ps_expr (pe_bm PySem.F.plainAttrs_list PySem.F.slot_list_append PySem.F.type_list_append mt_append (pv 4) (pa_cons (pe_tup (pa_cons (pv 5)
          (pa_cons (pe_call GA hr2 (by rfl) mA FA.kp bA .nil pass0 (pa_cons (pv 0) (pa_cons (pe_lst (pa_cons pe_int (pa_cons pe_int (pa_cons pe_int (pa_cons pe_int (pa_cons pe_int (pa_cons pe_int (pa_cons pe_int (pa_cons pe_int (pa_cons (pe_op op_pow pe_int pe_int) pa_nil)))))))))) pa_nil)))
          (pa_cons (pv 6) (pa_cons (pe_callTy call_tuple_of (by rfl) mt boot_tuple (pa_cons (pv 7) pa_nil)) pa_nil))))) pa_nil)))))))
      (pss_one (ps_ret (pe_tup (pa_cons (pe_callTy call_tuple_of (by rfl) mt boot_tuple (pa_cons (pv 4) pa_nil)) (pa_cons (pv 3) pa_nil))))))), ?_⟩
    -- the labels
    refine ⟨.ref f, rfl, .ref f, rfl, _, rfl, f, a, ns, c, m, rfl, m0, by omega, fd0, by omega, fun r H1 r0 r1 k1 fd1 => ⟨1, r, rfl, rfl, ?_⟩⟩
    obtain ⟨j, rfl⟩ := Int.eq_ofNat_of_zero_le r0
    refine ⟨f, a, ns, c + 1, 1 + j, ?_, by omega, fd1, by omega, fun ys L H2 nL eL lL hL ascL k2 fd2 => ?_⟩
    · show [V.ref f, V.int (1 + (j : Int))] = [V.ref f, V.int ((1 + j : Nat) : Int)]
      rw [Int.natCast_add]
      rfl
    -- who asks
    refine ⟨.ref f, rfl, .ref L, rfl, f, a, L, ns, c + 4, ys.map V.str, rfl, fd2, by omega, .inl (.inl eL), by rw [List.length_map]; omega, by rw [List.length_map]; omega, fun x H3 hx k3 fd3 => ⟨Nat.zero_le _, fun En nEn => ?_⟩⟩
    obtain ⟨asks, hasks, rfl⟩ := List.mem_map.mp hx
    refine ⟨_, _, rfl, ?_⟩
    have kA : Keep f H (upd H3 En (.lst [])) := ((k1.trans k2).trans k3).trans (keep_same (same_new nEn))
    have fdA : Fd f a ns (upd H3 En (.lst [])) (c + 5) := fd3.same (same_new nEn)
    have eL3 := k3 _ _ (fd_ne fd2 eL) eL
    have eLA : (upd H3 En (.lst [])) L = some (.lst (ys.map V.str)) := same_new nEn _ _ eL3
    have nEL : En ≠ L := (ne_of_none eL3 nEn).symm
    have eEn : (upd H3 En (.lst [])) En = some (.lst []) := upd_same
    have nfa := fd3.free nEn
    have n0E : H En = none := ne_free fd3 ((k1.trans k2).trans k3) nEn
    generalize upd H3 En (.lst []) = H4 at kA fdA eLA eEn ⊢
    -- the loop
    refine ⟨_, rfl, L, rfl, ⟨_, .inl (.inl eLA)⟩, for_list (K := K) (a := L) (xs := ys.map V.str) (fun i σ G => ∃ y5 y6 y7 y8, σ = [some (.ref f), some (.int m), some (.ref L), some (.str asks), some (.ref En), y5, y6, y7, y8] ∧ Keep f H G ∧ Fd f a ns G (c + 5 + 7 * i) ∧
      G L = some (.lst (ys.map V.str)) ∧ ∃ ws es, G En = some (.lst ws) ∧ EntsAt K G ws es ∧ es.length = i ∧ ∀ e ∈ es, e.ok ∧ e.nice)
      ⟨none, none, none, none, rfl, kA, fdA, eLA, [], [], eEn, .nil, rfl, fun e he => by cases he⟩ (fun i σ G _ ⟨_, _, _, _, _, _, _, h, _⟩ => .inl (.inl h)) ?_ ?_⟩
    · rintro i x σ G hx ⟨y5, y6, y7, y8, rfl, kG, fdG, eLG, ws, es, eEG, hE, lE, okE⟩
      have hi : i < (ys.map V.str).length := (List.getElem?_eq_some_iff.mp hx).1
      rw [List.length_map] at hi
      obtain ⟨y, hy, rfl⟩ := map_get hx
      have hyn := hL y (List.mem_of_getElem? hy)
      refine ⟨.ref f, rfl, f, a, ns, _, 3, rfl, by decide, by decide, fdG, by omega, fun r5 G5 _ _ k5 fd5 => ⟨rfl, _, rfl, ite2 (fun _ => ?_) (fun _ => ?_)⟩⟩
      case' refine_1 =>
        refine ⟨_, rfl, _, rfl, rfl, ?_⟩
        generalize (!decide (V.str y = V.str asks)) = hb
      case' refine_2 =>
        show Ends.nx _ (List.set _ 6 (some (V.bl (false && true)))) _
        generalize (false && true) = hb
      all_goals
        have e5L := k5 _ _ (fd_ne fdG eLG) eLG
        have e5E := k5 _ _ (fd_ne fdG eEG) eEG
        have hE5 := hE.ts (ts_fd fdG k5)
        dsimp only
        refine seq_asg ?_
        refine ⟨.ref L, rfl, L, rfl, ⟨_, .inl (.inl e5L)⟩, fun D nD => ?_⟩
        have nDf := fd5.free nD
        have nDE : En ≠ D := ne_of_none e5E nD
        refine lc_list (K := K) (a := L) (xs := ys.map V.str) (fun k G6 => Keep f G5 G6 ∧ Fd f a ns G6 (c + 6 + 7 * i + k) ∧ ∃ zs : List Str, G6 D = some (.lst (zs.map V.str)) ∧ zs.Sublist (ys.take k))
          ⟨keep_same (same_new nD), (fd5.same (same_new nD)).more (by omega), [], upd_same, List.nil_sublist _⟩ (fun k G6 _ h => .inl (.inl (h.1 _ _ (fd_ne fd5 e5L) e5L))) ?_ ?_
        · rintro k v G6 hv ⟨k6, fd6, zs, eD, sz⟩
          have lz : zs.length ≤ k := Nat.le_trans sz.length_le (by rw [List.length_take]; exact Nat.min_le_left _ _)
          have hk : k < (ys.map V.str).length := (List.getElem?_eq_some_iff.mp hv).1
          rw [List.length_map] at hk
          obtain ⟨z, hzy, rfl⟩ := map_get hv
          refine ⟨rfl, ?_⟩
          refine ⟨.ref f, rfl, f, a, ns, _, 3, rfl, by decide, by decide, fd6, by omega, fun r7 G7 _ _ k7 fd7 => ⟨rfl, _, rfl, ?_⟩⟩
          have e7D := k7 _ _ (fd_ne fd6 eD) eD
          have k57 : Keep f G5 G7 := k6.trans k7
          refine ite2 (fun _ => ?_) (fun _ => ?_)
          · refine ⟨_, rfl, zs.map V.str, e7D, by rw [List.length_map]; exact small' (by omega), fun b o nb hb => ?_, (fd7.own nDf.1 nDf.2).more (by omega), zs ++ [z], ?_, ?_⟩
            · rw [upd_ne (ne_of_none hb nD)]
              exact k57 b o nb hb
            · rw [upd_same, List.map_append]
              rfl
            · rw [List.take_add_one, hzy]
              exact sz.append (List.Sublist.refl _)
          · refine ⟨k57, fd7.more (by omega), zs, e7D, ?_⟩
            rw [List.take_add_one]
            exact sz.trans (List.sublist_append_left _ _)
        · rintro G6 ⟨k6, fd6, zs, eD, sz⟩
          rw [List.length_map] at fd6 sz
          rw [List.take_length] at sz
          have lz : zs.length ≤ ys.length := sz.length_le
          have hz : ∀ z ∈ zs, z ∈ names := fun z h => hL z (sz.subset h)
          have e6E := k6 _ _ (fd_ne fd5 e5E) e5E
          have e6L := k6 _ _ (fd_ne fd5 e5L) e5L
          have hE6 := hE5.ts (ts_fd fd5 k6)
          -- entries.append
          refine ⟨.ref En, rfl, .inl ⟨rfl, _, .inl (.inl e6E)⟩, _, rfl, .ref f, rfl, 10, 59, rfl, rfl, ⟨by decide, by decide, by decide⟩, (show 9 ≤ sizeLine by decide), fun pl npl => ?_⟩
          refine ⟨f, a, pl, ns, c + 11 + 7 * i, fees9.map V.int, rfl, (fd6.same (same_new npl)).more (by omega), by omega, .inl (.inl upd_same), (show 0 < 9 by decide), (show 9 ≤ 1000 by decide), fun x7 G7 hx7 k7 fd7 => ?_⟩
          obtain ⟨fee, hfee, rfl⟩ := List.mem_map.mp hx7
          have fd6p := fd6.same (same_new (o := .lst (fees9.map V.int)) npl)
          have e6pE := same_new (o := .lst (fees9.map V.int)) npl _ _ e6E
          have e7E := k7 _ _ (fd_ne fd6p e6pE) e6pE
          have e6pL := same_new (o := .lst (fees9.map V.int)) npl _ _ e6L
          have e7L := k7 _ _ (fd_ne fd6p e6pL) e6pL
          have e6pD := same_new (o := .lst (fees9.map V.int)) npl _ _ eD
          have e7D := k7 _ _ (fd_ne fd6p e6pD) e6pD
          have hE7 := hE6.ts ((ts_same (same_new npl)).trans (ts_fd fd6p k7))
          have kk7 : Keep f H G7 := (((kG.trans k5).trans k6).trans (keep_same (same_new npl))).trans k7
          refine ⟨_, rfl, _, rfl, D, zs.map V.str, rfl, .inl ⟨.inl (.inl e7D), fun tr ntr => ⟨(show 4 ≤ sizeLine by decide), fun tp ntp => ?_⟩⟩⟩
          have sR : Same G7 (upd G7 tr (.tup (zs.map V.str))) := same_new ntr
          have sP : Same _ (upd (upd G7 tr (.tup (zs.map V.str))) tp (.tup [.str y, .int fee, .bl hb, .ref tr])) := same_new ntp
          have eR := sP _ _ (upd_same (H := G7) (a := tr) (o := .tup (zs.map V.str)))
          have eP : (upd (upd G7 tr (.tup (zs.map V.str))) tp (.tup [.str y, .int fee, .bl hb, .ref tr])) tp = some (.tup [.str y, .int fee, .bl hb, .ref tr]) := upd_same
          have sm := sR.trans sP
          generalize upd (upd G7 tr (.tup (zs.map V.str))) tp (.tup [.str y, .int fee, .bl hb, .ref tr]) = G8 at sm eR eP ⊢
          have e8E := sm _ _ e7E
          have e8L := sm _ _ e7L
          refine ⟨En, ws, _, rfl, rfl, e8E, by rw [hE.len]; exact small' (by omega), ?_⟩
          refine ⟨_, _, _, _, rfl, fun b o nb hb' => ?_, ((fd7.same sm).own nfa.1 nfa.2).more (by omega), ?_, ws ++ [.ref tp], es ++ [⟨y, fee, hb, zs⟩], upd_same, ?_, ?_, ?_⟩
          · rw [upd_ne (ne_of_none hb' n0E)]
            exact sm _ _ (kk7 b o nb hb')
          · rw [upd_ne nEL.symm]
            exact e8L
          · refine (hE7.ts ((ts_same sm).trans (ts_lst e8E))).append (.cons ⟨tp, tr, rfl, ?_, ?_⟩ .nil)
            · exact tupT (ts_lst e8E) (.inl (.inl eP))
            · exact tupT (ts_lst e8E) (.inl (.inl eR))
          · rw [List.length_append, lE]
            rfl
          · intro e he
            rcases List.mem_append.mp he with h | h
            · exact okE e h
            · rw [List.mem_singleton.mp h]
              exact ⟨⟨names_fit y hyn, fees9_ok fee hfee, by show zs.length ≤ 8; omega, fun z hz' => names_fit z (hz z hz')⟩, hyn, fees9_all fee hfee, hz, ascL.sublist sz⟩
    · rintro σ G ⟨y5, y6, y7, y8, rfl, kG, fdG, eLG, ws, es, eEG, hE, lE, okE⟩
      rw [List.length_map] at lE fdG
      refine ⟨.ref En, rfl, En, ws, rfl, .inl ⟨.inl (.inl eEG), fun te nte => ⟨_, rfl, (show 2 ≤ sizeLine by decide), fun tp ntp => ?_⟩⟩⟩
      have sR : Same G (upd G te (.tup ws)) := same_new nte
      have sP : Same _ (upd (upd G te (.tup ws)) tp (.tup [.ref te, .str asks])) := same_new ntp
      have sm := sR.trans sP
      exact q (.ref tp) ⟨es, asks⟩ _ ⟨tp, te, ws, rfl, .inl (.inl upd_same), .inl (.inl (sP _ _ upd_same)), hE.same sm⟩ ⟨by show es.length ≤ 12; omega, (fun e he => (okE e he).1), names_fit asks (hL asks hasks)⟩ (fun e he => (okE e he).2) (hL asks hasks) (by show 0 < es.length; omega) (by show es.length ≤ 5; omega) (kG.trans (keep_same sm)) ((fdG.same sm).more (by omega))
end
end Kn


namespace Kn
open PySem PySem.Spec PyProof.Rows L2
abbrev nCost : List Str := ["_law_feed"]
theorem scCost : FnScope nCost ["_law_feed"] (defScope (topS 34)) := ⟨rfl, rfl, rfl, by decide +kernel, rfl, by decide +kernel, by decide +kernel⟩
abbrev nEnt : List Str := ["_law_feed", "_law_labels_here", "_law_row", "_law_label"]
theorem scEnt : FnScope nEnt ["_law_feed"] (defScope (topS 35)) := ⟨rfl, rfl, rfl, by decide +kernel, rfl, by decide +kernel, by decide +kernel⟩
def costs : List Int := [1, 2, 9, 10, 99, 100, 12345678901, 10 ^ (59 : Int).toNat, 10 ^ (60 : Int).toNat - 1]
theorem costs_all : ∀ i ∈ costs, i ∈ feesAll := by decide +kernel
def spCost : Sp := fun vs H Q _ => ∃ (f a : Addr) (ns : List Int) (c : Nat), vs = [.ref f] ∧ Fd f a ns H c ∧ c < 90000 ∧
  ∀ (n : Int) (H' : Hp), n ∈ costs → Keep f H H' → Fd f a ns H' (c + 1) → Q (.int n) H'
def spEnt (K : PySem.W.Frag) : Sp := fun vs H Q _ => ∃ (f a : Addr) (ns : List Int) (c : Nat), vs = [.ref f] ∧ Fd f a ns H c ∧ c < 80000 ∧
  ∀ (v : V) (e : Ent) (H' : Hp), EntAt K H' v e → e.ok → e.nice → Keep f H H' → Fd f a ns H' (c + 20) → Q v H'
section
variable {P : Program} {w : World} {K : PySem.W.Frag} {mg : Str → Option Value} {base : Heap}
theorem ok_cost {g gA : Addr} {fd fdA : FuncData} (F : Fun K "_law_cost" "_law_cost" (topS 34) g fd) (FA : Fun K "_law_any" "_law_any" (topS 27) gA fdA) (bA : Binds K fdA ["_law_feed", "_law_some"] []) (mA : mg "_law_any" = some (.ref gA)) (GA : FnOk P w K mg base CX0 2 gA fdA ["_law_feed", "_law_some"] (spAny K)) :
    FnOk P w K mg base CX0 3 g fd ["_law_feed"] spCost := by
  refine F.ok scCost (fun vs H Q E h => ?_) (fun cdv A outer s H vs Q E hr h => ?_)
  · obtain ⟨f, a, ns, c, rfl, _⟩ := h
    rfl
  · obtain ⟨f, a, ns, c, rfl, fd0, hc, q⟩ := h
    refine ⟨_, pss_one (ps_ret (pe_call GA hr (by rfl) mA FA.kp bA .nil pass0 (pa_cons (pv 0) (pa_cons (pe_lst (pa_cons pe_int (pa_cons pe_int (pa_cons pe_int (pa_cons pe_int (pa_cons pe_int (pa_cons pe_int (pa_cons pe_int (pa_cons (pe_op op_pow pe_int pe_int)
      (pa_cons (pe_op op_sub (pe_op op_pow pe_int pe_int) pe_int) pa_nil)))))))))) pa_nil)))), ?_⟩
    refine ⟨_, rfl, 10, 59, rfl, rfl, ⟨by decide, by decide, by decide⟩, 10, 60, rfl, rfl, ⟨by decide, by decide, by decide⟩, _, 1, rfl, rfl, (show 9 ≤ sizeLine by decide), fun L nL => ?_⟩
    refine ⟨f, a, L, ns, c, costs.map V.int, rfl, fd0.same (same_new nL), by omega, .inl (.inl upd_same), (show 0 < 9 by decide), (show 9 ≤ 1000 by decide), fun x H' hx k fd' => ?_⟩
    obtain ⟨n, hn, rfl⟩ := List.mem_map.mp hx
    exact q n H' hn ((keep_same (same_new nL)).trans k) fd'

theorem ok_ent {g gD gA gL gC : Addr} {fd fdD fdA fdL fdC : FuncData} (F : Fun K "_law_any_entry" "_law_any_entry" (topS 35) g fd)
    (FL : Fun K "_law_labels" "_law_labels" (topS 28) gL fdL) (bL : Binds K fdL ["_law_feed", "_law_many"] []) (mL : mg "_law_labels" = some (.ref gL)) (GL : FnOk P w K mg base CX0 3 gL fdL ["_law_feed", "_law_many"] spLab)
    (FA : Fun K "_law_any" "_law_any" (topS 27) gA fdA) (bA : Binds K fdA ["_law_feed", "_law_some"] []) (mA : mg "_law_any" = some (.ref gA)) (GA : FnOk P w K mg base CX0 2 gA fdA ["_law_feed", "_law_some"] (spAny K))
    (FD : Fun K "_law_draw" "_law_draw" (topS 26) gD fdD) (bD : Binds K fdD ["_law_feed", "_law_many"] []) (mD : mg "_law_draw" = some (.ref gD)) (GD : FnOk P w K mg base CX0 1 gD fdD ["_law_feed", "_law_many"] spDraw)
    (FC : Fun K "_law_cost" "_law_cost" (topS 34) gC fdC) (bC : Binds K fdC ["_law_feed"] []) (mC : mg "_law_cost" = some (.ref gC)) (GC : FnOk P w K mg base CX0 3 gC fdC ["_law_feed"] spCost) (mt : mg "tuple" = none) :
    FnOk P w K mg base CX0 4 g fd ["_law_feed"] (spEnt K) := by
  refine F.ok scEnt (fun vs H Q E h => ?_) (fun cdv A outer s H vs Q E hr h => ?_)
  · obtain ⟨f, a, ns, c, rfl, _⟩ := h
    rfl
  · obtain ⟨f, a, ns, c, rfl, fd0, hc, q⟩ := h
    have hr1 : Room 1 _ := hr.mono (by decide)
    have hr2 : Room 2 _ := hr.mono (by decide)
    refine ⟨_, pss_cons (ps_set (i := 1) scEnt.nd rfl (.inl rfl) (pe_call GL hr (by rfl) mL FL.kp bL .nil pass0 (pa_cons (pv 0) (pa_cons (pe_op op_add pe_int (pe_call GD hr1 (by rfl) mD FD.kp bD .nil pass0 (pa_cons (pv 0) (pa_cons pe_int pa_nil)))) pa_nil))))
      (pss_cons (ps_setLc (i := 2) (own := [("_law_label", 3)]) (g := gName 3) (by rfl) scEnt.nd rfl rfl (sw_true rfl rfl rfl (by decide +kernel)) (pi_list (pv 1)) (blkOk_by (own := [("_law_label", 3)]) (N := nEnt) (sc := defScope (topS 35)) (by decide +kernel))
          (fun _ _ _ _ _ => pg_name (i := 3) scEnt.nd rfl (Or.inl rfl)) (fun _ _ _ _ _ => pts_one (pt_cmpR op_gt (pe_call GD hr1 (by rfl) mD FD.kp bD .nil pass0 (pa_cons (pv 0) (pa_cons pe_int pa_nil))) pe_int (nomark _))) (fun _ _ _ _ _ => pv 3))
      (pss_one (ps_ret (pe_tup (pa_cons (pe_call GA hr2 (by rfl) mA FA.kp bA .nil pass0 (pa_cons (pv 0) (pa_cons (pv 1) pa_nil)))
        (pa_cons (pe_call GC hr (by rfl) mC FC.kp bC .nil pass0 (pa_cons (pv 0) pa_nil))
        (pa_cons (pe_cmpR op_eq (pe_call GD hr1 (by rfl) mD FD.kp bD .nil pass0 (pa_cons (pv 0) (pa_cons pe_int pa_nil))) pe_int (nomark _))
        (pa_cons (pe_callTy call_tuple_of (by rfl) mt boot_tuple (pa_cons (pv 2) pa_nil)) pa_nil)))))))), ?_⟩
    -- the labels
    refine ⟨.ref f, rfl, .ref f, rfl, f, a, ns, c, 7, rfl, by decide, by decide, fd0, by omega, fun r H1 r0 r1 k1 fd1 => ⟨1, r, rfl, rfl, ?_⟩⟩
    obtain ⟨j, rfl⟩ := Int.eq_ofNat_of_zero_le r0
    refine ⟨f, a, ns, c + 1, 1 + j, ?_, by omega, fd1, by omega, fun ys L H2 nL eL lL hL ascL k2 fd2 => ?_⟩
    · show [V.ref f, V.int (1 + (j : Int))] = [V.ref f, V.int ((1 + j : Nat) : Int)]
      rw [Int.natCast_add]
      rfl
    -- the row
    try dsimp only
    refine seq_asg ?_
    refine ⟨.ref L, rfl, L, rfl, ⟨_, .inl (.inl eL)⟩, fun D nD => ?_⟩
    have nDf := fd2.free nD
    refine lc_list (K := K) (a := L) (xs := ys.map V.str) (fun k G => Keep f H2 G ∧ Fd f a ns G (c + 4 + k) ∧ ∃ zs : List Str, G D = some (.lst (zs.map V.str)) ∧ zs.Sublist (ys.take k))
      ⟨keep_same (same_new nD), (fd2.same (same_new nD)).more (by omega), [], upd_same, List.nil_sublist _⟩ (fun k G _ h => .inl (.inl (h.1 _ _ (fd_ne fd2 eL) eL))) ?_ ?_
    · rintro k v G6 hv ⟨k6, fd6, zs, eD, sz⟩
      have lz : zs.length ≤ k := Nat.le_trans sz.length_le (by rw [List.length_take]; exact Nat.min_le_left _ _)
      have hk : k < (ys.map V.str).length := (List.getElem?_eq_some_iff.mp hv).1
      rw [List.length_map] at hk
      obtain ⟨z, hzy, rfl⟩ := map_get hv
      refine ⟨rfl, ?_⟩
      refine ⟨.ref f, rfl, f, a, ns, _, 3, rfl, by decide, by decide, fd6, by omega, fun r7 G7 _ _ k7 fd7 => ⟨r7, 0, rfl, rfl, _, rfl, ?_⟩⟩
      have e7D := k7 _ _ (fd_ne fd6 eD) eD
      have k57 : Keep f H2 G7 := k6.trans k7
      refine ite2 (fun _ => ?_) (fun _ => ?_)
      · refine ⟨_, rfl, zs.map V.str, e7D, by rw [List.length_map]; exact small' (by omega), fun b o nb hb => ?_, (fd7.own nDf.1 nDf.2).more (by omega), zs ++ [z], ?_, ?_⟩
        · rw [upd_ne (ne_of_none hb nD)]
          exact k57 b o nb hb
        · rw [upd_same, List.map_append]
          rfl
        · rw [List.take_add_one, hzy]
          exact sz.append (List.Sublist.refl _)
      · refine ⟨k57, fd7.more (by omega), zs, e7D, ?_⟩
        rw [List.take_add_one]
        exact sz.trans (List.sublist_append_left _ _)
    · rintro G6 ⟨k6, fd6, zs, eD, sz⟩
      rw [List.length_map] at fd6 sz
      rw [List.take_length] at sz
      have lz : zs.length ≤ ys.length := sz.length_le
      have hz : ∀ z ∈ zs, z ∈ names := fun z h => hL z (sz.subset h)
      have e6L := k6 _ _ (fd_ne fd2 eL) eL
      -- the name
      refine ⟨.ref f, rfl, .ref L, rfl, f, a, L, ns, _, ys.map V.str, rfl, fd6, by omega, .inl (.inl e6L), by rw [List.length_map]; omega, by rw [List.length_map]; omega, fun x G7 hx k7 fd7 => ?_⟩
      obtain ⟨y, hy, rfl⟩ := List.mem_map.mp hx
      have e7D := k7 _ _ (fd_ne fd6 eD) eD
      -- the fee
      refine ⟨.ref f, rfl, f, a, ns, _, rfl, fd7, by omega, fun fee G8 hfee k8 fd8 => ?_⟩
      have e8D := k8 _ _ (fd_ne fd7 e7D) e7D
      have hfa := costs_all fee hfee
      -- the thing
      refine ⟨.ref f, rfl, f, a, ns, _, 2, rfl, by decide, by decide, fd8, by omega, fun r9 G9 _ _ k9 fd9 => ⟨rfl, ?_⟩⟩
      have e9D := k9 _ _ (fd_ne fd8 e8D) e8D
      refine ⟨.ref D, rfl, D, zs.map V.str, rfl, .inl ⟨.inl (.inl e9D), fun tr ntr => ⟨(show 4 ≤ sizeLine by decide), fun tp ntp => ?_⟩⟩⟩
      have kk : Keep f H G9 := ((((k1.trans k2).trans k6).trans k7).trans k8).trans k9
      have sR : Same G9 (upd G9 tr (.tup (zs.map V.str))) := same_new ntr
      have sP := same_new (o := .tup [V.str y, V.int fee, V.bl (decide (V.int r9 = V.int 0)), V.ref tr]) ntp
      refine q (.ref tp) ⟨y, fee, decide (V.int r9 = V.int 0), zs⟩ _ ⟨tp, tr, rfl, .inl (.inl upd_same), .inl (.inl (sP _ _ upd_same))⟩ ⟨names_fit y (hL y hy), feesAll_ok fee hfa, by show zs.length ≤ 8; omega, fun z hz' => names_fit z (hz z hz')⟩ ⟨hL y hy, hfa, hz, ascL.sublist sz⟩ (kk.trans (keep_same (sR.trans sP))) ((fd9.same (sR.trans sP)).more (by omega))
end
end Kn


/-! En: enumerate(t), t a tuple. -/
namespace En
open PySem PySem.Spec PyProof.Rows L2
open AutoSeq1 (wpAny_loadPart')
theorem made_tup (t : Addr) (xs : Array Value) (n : Nat) (dct : Option Addr) (sl : Array (Option Value)) :
    Meets (Builtin.«enumerate.__new__» ⟨[.type "enumerate", .ref t], []⟩) (fun _ R s => s.heap.get? t = some { cls := .type "tuple", dict := dct, data := .seq xs n, slots := sl } ∧
      R (.ok (.ret (.ref (s.heap.push { cls := .type "tuple_iterator", data := .fields #[.ref t, .int 0 0] }).objs.size)))
        { s with heap := (s.heap.push { cls := .type "tuple_iterator", data := .fields #[.ref t, .int 0 0] }).push { cls := .type "enumerate", data := .fields #[.none, .bool false, .ref s.heap.objs.size, rawInt 0, .none, .none] } }) :=
  .of_wp fun prog w A R s told => by
    obtain ⟨hp, g, d, tk, os⟩ := s
    obtain ⟨ht, q⟩ := told
    have hsub := sub_enumerate
    have isT : Heap.IsTuple (Shared.heap ⟨hp, g, d, tk, os⟩) t xs := ⟨_, ht, rfl, n, rfl⟩
    wp_walk using wpAny_loadPart' ht
    refine wpAny_stack_any fun st => wpAny_pure ?_
    split
    · rename_i c _ _ _ _ _
      cases (c == Value.type "enumerate") <;> (wp_walk using wpAny_loadPart' ht, wpAny_pyIter_tuple isT; exact ⟨_, rfl, q⟩)
    · wp_walk using wpAny_loadPart' ht, wpAny_pyIter_tuple isT
      exact ⟨_, rfl, q⟩
section
variable {prog : Program} {w : World} {A : Around} {E : Value → Shared → Prop} {s : Shared}
theorem call_tup {t : Addr} {xs : Array Value} {Q : Value → Shared → Prop} (isT : s.heap.IsTuple t xs)
    (q : ∀ h', IsEnum h' (s.heap.objs.size + 1) s.heap.objs.size 0 .none → h'.IsTupleIter s.heap.objs.size t 0 → (∀ b o, s.heap.get? b = some o → h'.get? b = some o) → Q (.ref (s.heap.objs.size + 1)) { s with heap := h' }) :
    wpAny (model prog w) A (call (.type "enumerate") [.ref t]) Q E s := by
  obtain ⟨⟨c, dct, dt, sl⟩, ht, hc, n, hd⟩ := isT
  obtain rfl : c = .type "tuple" := hc
  obtain rfl : dt = .seq xs n := hd
  refine callType_new F.called_enumerate (by decide) (F.typeCall_enumerate_1 _) (F.newCall_enumerate_1 _) (fun obj => F.args_object_init_2 obj _) F.entry_enumerate_new (made_tup t xs n dct sl) ⟨ht, ?_⟩
  have z : (s.heap.push { cls := .type "tuple_iterator", data := .fields #[.ref t, .int 0 0] }).objs.size = s.heap.objs.size + 1 := Heap.size_push ..
  show _ ∧ _
  rw [z]
  have he : IsEnum ((s.heap.push { cls := .type "tuple_iterator", data := .fields #[.ref t, .int 0 0] }).push { cls := .type "enumerate", data := .fields #[.none, .bool false, .ref s.heap.objs.size, rawInt 0, .none, .none] })
      (s.heap.objs.size + 1) s.heap.objs.size 0 .none := by
    have y := Heap.get?_push_size (s.heap.push { cls := .type "tuple_iterator", data := .fields #[.ref t, .int 0 0] }) (o := { cls := .type "enumerate", data := .fields #[.none, .bool false, .ref s.heap.objs.size, rawInt 0, .none, .none] }) rfl
    rw [z] at y
    exact y
  exact ⟨⟨_, he, rfl⟩, q _ he ⟨_, Heap.get?_push_of_some _ (Heap.get?_push_size _ rfl), rfl, rfl⟩ fun _ _ y => Heap.get?_push_of_some _ (Heap.get?_push_of_some _ y)⟩
end
/-- the tuple at a at each turn, the item in a new pair -/
def Itu (K : PySem.W.Frag) (a : Addr) : It :=
  ⟨fun i H => ∃ (xs : List V) (x : V), SqT K H a xs ∧ xs[i]? = some x, fun i H v H' => ∃ T x, v = .ref T ∧ H T = none ∧ H' = upd H T (.tup [.int (i : Nat), x]) ∧ ∀ xs, SqT K H a xs → xs[i]? = some x, fun i H => ∃ xs : List V, SqT K H a xs ∧ xs.length = i⟩
theorem turn_tup {P : Program} {w : World} {K : PySem.W.Frag} {elts : List Expr} {kk : Nat} {tpos : Pos} (a e it : Addr) :
    Turn P w K (.Tuple elts kk tpos) (Itu K a) [e, it] e (fun i h => (∃ old, IsEnum h e it ((i : Nat) : Int) old) ∧ h.IsTupleIter it a i ∧ e ≠ it ∧ a ≠ it ∧ a ≠ e) where
  mem := by simp
  obj := fun i h st b hb => by
    obtain ⟨⟨old, he⟩, ⟨o, ho, hc, hd⟩, _⟩ := st
    rcases (show b = e ∨ b = it by simpa using hb) with rfl | rfl
    · exact ⟨_, he, fun v q => nomatch q⟩
    · exact ⟨o, ho, fun v q => by rw [hd] at q; cases q⟩
  keep := fun i h h' st k => let ⟨⟨old, he⟩, hi, hne, n2, n3⟩ := st; ⟨⟨old, k e (by simp) _ he⟩, hi.at fun o q => k it (by simp) o q, hne, n2, n3⟩
  item := by
    intro X hP hw hK hc i pins s σ H E I hf st hg
    subst hP hw hK
    obtain ⟨⟨old, he⟩, hit, hne, nit, nae⟩ := st
    obtain ⟨xs, x, hq, hx⟩ := hg
    obtain ⟨its, rv, p, hz⟩ := I.tuple hq
    have isT : s.heap.IsTuple a its.toArray := p
    obtain ⟨u, hu, ru⟩ := rv.get hx
    have hel : e < s.heap.objs.size := Heap.lt_size he
    have hil : it < s.heap.objs.size := by obtain ⟨_, q, _⟩ := hit; exact Heap.lt_size q
    have D := Draws.tuple (prog := X.prog) (w := X.w) (A := X.A.in1) (show X.A.in1.handled = none from I.ok.hd hc) it a nit its.toArray
    have hin : i < its.toArray.size := by
      rw [List.size_toArray, ← rv.length]
      exact (List.getElem?_eq_some_iff.mp hx).1
    have nef : e ∉ [it, a] := by
      intro z
      rcases List.mem_cons.mp z with z | z
      · exact hne z
      · exact nae (List.mem_singleton.mp z).symm
    refine wpAny_pyNext_enum_itemD D he ⟨hit, isT⟩ hin hne nef fun y h' tk hy ho st' hT hsz hk => ?_
    have hy : its.toArray[i]? = some y := hy
    have : some u = some y := by rw [← hy, ← hu]; simp
    cases this
    refine ⟨_, rfl, wpAny_letOwnedTupleGo_enum (s := { s with heap := h', toks := tk + 1 }) ho fun h'' he' sb => ?_⟩
    have hT2 : h''.get? s.heap.objs.size = some { cls := .type "tuple", data := .seq #[.int i tk, u] } := (sb.2 _ (Nat.ne_of_gt hel)).trans hT
    have new : ObjOk X.prog X.w (upd H s.heap.objs.size (.tup [.int (i : Nat), x])) h'' s.heap.objs.size (.tup [.int (i : Nat), x]) :=
      ⟨show 2 ≤ sizeLine by decide, [.int i tk, u], .cons ⟨_, rfl⟩ (.cons ru .nil), ⟨_, hT2, rfl, _, rfl⟩⟩
    have I1 : Inv X pins σ (upd H s.heap.objs.size (.tup [.int (i : Nat), x])) { s with heap := h'', toks := tk + 1 } :=
      I.turnedNew (ch := [e, it]) (fun b ob hb q => (sb.2 b (fun z => hb (by simp [z]))).trans (hk b ob (fun z => hb (by simp [z])) (fun z => hb (by simp [z])) q)) hf (Nat.le_refl _) new
    refine ⟨.ref s.heap.objs.size, _, I1, rfl, ⟨_, x, rfl, I.hok.fresh (Nat.le_refl _), rfl, fun ys hy => by rw [I.tuple_inj hy hq]; exact hx⟩, ⟨⟨u, ?_⟩, st'.1.at fun o q => (sb.2 it (Ne.symm hne)).trans q, hne, nit, nae⟩, fun b hb => ?_⟩
    · rw [show ((i + 1 : Nat) : Int) = (i : Int) + 1 by omega]
      exact he'
    · have hb' : b < s.heap.objs.size := by
        rcases (show b = e ∨ b = it by simpa using hb) with rfl | rfl
        · exact hel
        · exact hil
      rw [upd_ne (Nat.ne_of_lt hb')]
      exact (hf b hb).1
  done := by
    intro X hP hw hK hc i pins s σ H E I hf st hg
    subst hP hw hK
    obtain ⟨⟨old, he⟩, hit, hne, nit, nae⟩ := st
    obtain ⟨xs, hq, hx⟩ := hg
    obtain ⟨its, rv, p, hz⟩ := I.tuple hq
    have isT : s.heap.IsTuple a its.toArray := p
    obtain ⟨f0, f1, f2, f3, f4, f5⟩ := hf it (by simp)
    have D := Draws.tuple (prog := X.prog) (w := X.w) (A := X.A.in1) (show X.A.in1.handled = none from I.ok.hd hc) it a nit its.toArray
    have many : its.toArray.size = i := by
      rw [List.size_toArray, ← rv.length]
      exact hx
    exact wpAny_pyNext_enum_endD D he (by rw [many]; exact ⟨hit, isT⟩) fun h' eb => ⟨rfl, I.turned (t' := s.toks) (fun b o hb q => eb b o hb q) f0 f1 f3 f4 f5⟩
  self := fun A i s Q E st h => let ⟨⟨_, he⟩, _⟩ := st; wpAny_pyIter_enum he h
def iEnT (K : PySem.W.Frag) (ta : TA) : TI := fun σ H R => ta σ H fun vs G => ∃ a xs, vs = [.ref a] ∧ SqT K G a xs ∧ R (Itu K a) G
theorem pi_enT {X : Cx} {e : Expr} {ta : TA} {p pos tpos : Pos} {elts : List Expr} {kk : Nat} (hg : Gl X "enumerate") (hm : X.mg "enumerate" = none) (ha : PA X [e] ta) (hs : starEach [e] X.env = [(false, eval e X.env)] := by rfl) :
    PI X (.Tuple elts kk tpos) (.Call (.Name "enumerate" p) [e] [] pos) (iEnT X.K ta) := by
  refine ⟨fun pins s σ H R I told => Call_ (ld_blt I hg hm boot_enumerate (PyProof.Rows.callWith_type1 (thn (ha.run pos pins s σ H _ I told) ?_) hs rfl))⟩
  rintro us s1 ⟨vs, H1, I1, rv, a, xs, rfl, hq, q⟩
  obtain ⟨u, rfl, rfl⟩ := vals1 rv
  obtain ⟨its, rv', isT, room⟩ := I1.tuple hq
  have lta : a < s1.heap.objs.size := by obtain ⟨_, y, _⟩ := isT; exact Heap.lt_size y
  refine call_tup isT fun h' he hit hk => wpAny_pyIter_enum he ?_
  refine ⟨s1.heap.objs.size + 1, [s1.heap.objs.size + 1, s1.heap.objs.size], _, _, H1, rfl, I1.kept (t' := s1.toks) hk, turn_tup a (s1.heap.objs.size + 1) s1.heap.objs.size, ⟨⟨.none, he⟩, hit, Nat.succ_ne_self _, Nat.ne_of_lt lta, Nat.ne_of_lt (Nat.lt_succ_of_lt lta)⟩, fun b hb => ?_, q⟩
  have le : s1.heap.objs.size ≤ b := by
    rcases (show b = s1.heap.objs.size + 1 ∨ b = s1.heap.objs.size by simpa using hb) with rfl | rfl
    · exact Nat.le_succ _
    · exact Nat.le_refl _
  exact I1.fpOk le (I1.hok.fresh le)
theorem walk_enT {K : PySem.W.Frag} {a : Addr} {xs : List V} : Walk (Itu K a) xs.length (fun H => SqT K H a xs) (YPair (fun i => some (.int (i : Nat))) (fun i => xs[i]?)) := by
  refine ⟨fun i _ hi q => ⟨xs, xs[i], q, by simp [hi]⟩, fun _ q => ⟨xs, q, rfl⟩, fun i H v H' _ q y => ?_⟩
  obtain ⟨T, x, h1, h2, h3, h4⟩ := y
  exact ⟨T, .int (i : Nat), x, h1, h2, h3, rfl, h4 xs q⟩
end En


namespace Kn
open PySem PySem.Spec PyProof.Rows L2
/-! ### words that can stand -/
def nm : List Str := names ++ [("q" : Str)]
theorem nm_facts {w : Str} (h : w ∈ nm) : w.length ≤ 8 ∧ Txt.isascii w = true ∧ Txt.isalpha w = true ∧ Txt.islower w = true := by
  have all : (nm.all fun w => decide (w.length ≤ 8) && (Txt.isascii w && (Txt.isalpha w && Txt.islower w))) = true := by decide +kernel
  have q := List.all_eq_true.mp all w h
  obtain ⟨q1, q⟩ := Bool.and_eq_true_iff.mp q
  obtain ⟨q2, q⟩ := Bool.and_eq_true_iff.mp q
  obtain ⟨q3, q4⟩ := Bool.and_eq_true_iff.mp q
  exact ⟨of_decide_eq_true q1, q2, q3, q4⟩
def Figs (w : Str) : Prop := w.length ≤ 60 ∧ Txt.startswith w "0" = false ∧ Txt.isascii w = true ∧ Txt.isdigit w = true
theorem figs_fee {i : Int} (h : i ∈ feesAll) : Figs (feeT i) := by
  have all : (feesAll.all fun i => decide ((feeT i).length ≤ 60) && (!Txt.startswith (feeT i) "0" && (Txt.isascii (feeT i) && Txt.isdigit (feeT i)))) = true := by decide +kernel
  have q := List.all_eq_true.mp all i h
  obtain ⟨q1, q⟩ := Bool.and_eq_true_iff.mp q
  obtain ⟨q2, q⟩ := Bool.and_eq_true_iff.mp q
  obtain ⟨q3, q4⟩ := Bool.and_eq_true_iff.mp q
  exact ⟨of_decide_eq_true q1, by simpa using q2, q3, q4⟩
theorem read_fee {i : Int} (h : i ∈ feesAll) : PySem.intText? (feeT i) = some i := by
  have all : (feesAll.all fun i => decide (PySem.intText? (feeT i) = some i)) = true := by decide +kernel
  exact of_decide_eq_true (List.all_eq_true.mp all i h)
/-- c is no sign of x -/
def NoC (c : Nat) (x : Str) : Prop := c ∉ TL.tl x
theorem NoC.join {c : Nat} {y : Str} (hy : NoC c y) : ∀ (xs : List Str), (∀ x ∈ xs, NoC c x) → NoC c (Str.join y xs)
  | [], _ => fun h => by cases h
  | [x], h => h x (List.mem_cons_self ..)
  | x :: z :: r, h => by
    intro q
    have q : c ∈ TL.tl (x ++ y ++ Str.join y (z :: r)) := q
    rw [TL.tl_append, TL.tl_append, List.mem_append, List.mem_append] at q
    rcases q with (q | q) | q
    · exact h x (List.mem_cons_self ..) q
    · exact hy q
    · exact NoC.join hy (z :: r) (fun v hv => h v (List.mem_cons_of_mem _ hv)) q
theorem names_noC {w : Str} (h : w ∈ names) : NoC 32 w ∧ NoC 44 w ∧ NoC 45 w ∧ NoC 10 w := by
  have all : (names.all fun w => decide (32 ∉ TL.tl w) && (decide (44 ∉ TL.tl w) && (decide (45 ∉ TL.tl w) && decide (10 ∉ TL.tl w)))) = true := by decide +kernel
  have q := List.all_eq_true.mp all w h
  obtain ⟨q1, q⟩ := Bool.and_eq_true_iff.mp q
  obtain ⟨q2, q⟩ := Bool.and_eq_true_iff.mp q
  obtain ⟨q3, q4⟩ := Bool.and_eq_true_iff.mp q
  have z1 : 32 ∉ TL.tl w := of_decide_eq_true q1
  have z2 : 44 ∉ TL.tl w := of_decide_eq_true q2
  have z3 : 45 ∉ TL.tl w := of_decide_eq_true q3
  have z4 : 10 ∉ TL.tl w := of_decide_eq_true q4
  exact ⟨z1, z2, z3, z4⟩
theorem fee_noC {i : Int} (h : i ∈ feesAll) : NoC 32 (feeT i) ∧ NoC 44 (feeT i) ∧ NoC 10 (feeT i) := by
  have all : (feesAll.all fun i => decide (32 ∉ TL.tl (feeT i)) && (decide (44 ∉ TL.tl (feeT i)) && decide (10 ∉ TL.tl (feeT i)))) = true := by decide +kernel
  have q := List.all_eq_true.mp all i h
  obtain ⟨q1, q⟩ := Bool.and_eq_true_iff.mp q
  obtain ⟨q2, q3⟩ := Bool.and_eq_true_iff.mp q
  have z1 : 32 ∉ TL.tl (feeT i) := of_decide_eq_true q1
  have z2 : 44 ∉ TL.tl (feeT i) := of_decide_eq_true q2
  have z3 : 10 ∉ TL.tl (feeT i) := of_decide_eq_true q3
  exact ⟨z1, z2, z3⟩
def RowOk (r : List Str) : Prop := r.length ≤ 8 ∧ (∀ s ∈ r, s ∈ names) ∧ Asc r
theorem Ent.row_ok {e : Ent} (h : e.ok) (k : e.nice) : RowOk e.row := ⟨h.2.2.1, k.2.2.1, k.2.2.2⟩
theorem tabT_noC {r : List Str} (h : RowOk r) {c : Nat} (hc : c = 32 ∨ c = 10) : NoC c (tabT r) := by
  unfold tabT
  split
  · rcases hc with rfl | rfl <;> (unfold NoC; decide +kernel)
  · refine NoC.join ?_ r fun x hx => ?_
    · rcases hc with rfl | rfl <;> (unfold NoC; decide +kernel)
    · rcases hc with rfl | rfl
      · exact (names_noC (h.2.1 x hx)).1
      · exact (names_noC (h.2.1 x hx)).2.2.2
theorem tabT_cut {r : List Str} (h : RowOk r) (ne : r ≠ []) : tabT r ≠ ("-" : Str) ∧ Txt.split (tabT r) "," = r := by
  have e : tabT r = Str.join "," r := by unfold tabT; rw [if_neg ne]
  refine ⟨fun z => ?_, ?_⟩
  · have n : NoC 45 (Str.join "," r) := NoC.join (by unfold NoC; decide +kernel) r fun x hx => (names_noC (h.2.1 x hx)).2.2.1
    rw [← e, z] at n
    exact n (by decide +kernel)
  · rw [e, ← TL.join_eq]
    exact TL.split_join (s := 44) (S := []) (by decide +kernel) (by decide +kernel) ne fun x hx => (names_noC (h.2.1 x hx)).2.1
theorem tabT_nil : tabT [] = ("-" : Str) := rfl
inductive Stands : Int → Str → Prop
  | kind : Stands 0 "kind"
  | name {w : Str} : w ∈ nm → Stands 1 w
  | fee {w : Str} : Figs w → Stands 2 w
  | has (b : Bool) : Stands 3 (wordT b)
  | row {r : List Str} : RowOk r → Stands 4 (tabT r)

abbrev nFig : List Str := ["word"]
theorem scFig : FnScope nFig ["word"] (defScope (topS 6)) := ⟨rfl, rfl, rfl, by decide +kernel, rfl, by decide +kernel, by decide +kernel⟩
abbrev nNm : List Str := ["thing"]
theorem scNm : FnScope nNm ["thing"] (defScope (topS 8)) := ⟨rfl, rfl, rfl, by decide +kernel, rfl, by decide +kernel, by decide +kernel⟩
abbrev nIt : List Str := ["thing", "k", "name"]
theorem scIt : FnScope nIt ["thing"] (defScope (topS 9)) := ⟨rfl, rfl, rfl, by decide +kernel, rfl, by decide +kernel, by decide +kernel⟩
abbrev nTr : List Str := ["word"]
theorem scTr : FnScope nTr ["word"] (defScope (topS 12)) := ⟨rfl, rfl, rfl, by decide +kernel, rfl, by decide +kernel, by decide +kernel⟩
abbrev nCan : List Str := ["k", "word"]
theorem scCan : FnScope nCan ["k", "word"] (defScope (topS 13)) := ⟨rfl, rfl, rfl, by decide +kernel, rfl, by decide +kernel, by decide +kernel⟩
def spFig : Sp := fun vs H Q _ => ∃ w : Str, vs = [.str w] ∧ Figs w ∧ Q (.bl true) H
def spNm : Sp := fun vs H Q _ => ∃ w : Str, vs = [.str w] ∧ w ∈ nm ∧ Q (.bl true) H
def spIt (K : PySem.W.Frag) : Sp := fun vs H Q _ => ∃ (a : Addr) (r : List Str), vs = [.ref a] ∧ H a = some (.tup (r.map V.str)) ∧ RowOk r ∧ ∀ H', Same H H' → Q (.bl true) H'
def spTr (K : PySem.W.Frag) : Sp := fun vs H Q _ => ∃ r : List Str, vs = [.str (tabT r)] ∧ RowOk r ∧ ∀ p H', Same H H' → H' p = some (.tup (r.map V.str)) → Q (.ref p) H'
def spCan : Sp := fun vs H Q _ => ∃ (k : Int) (w : Str), vs = [.int k, .str w] ∧ Stands k w ∧ ∀ H', Same H H' → Q (.bl true) H'
section
variable {P : Program} {w : World} {K : PySem.W.Frag} {mg : Str → Option Value} {base : Heap}
theorem ok_fig {g : Addr} {fd : FuncData} {tk : Tok} (F : Fun K "is_figures" "is_figures" (topS 6) g fd) (ml : mg "len" = none) (mm : mg "MOST_DIGITS" = some (.int 60 tk)) : FnOk P w K mg base CX0 1 g fd ["word"] spFig := by
  refine F.ok scFig (fun vs H Q E h => ?_) (fun cdv A outer s H vs Q E hr h => ?_)
  · obtain ⟨w, rfl, _⟩ := h
    rfl
  · obtain ⟨w, rfl, ⟨f1, f2, f3, f4⟩, q⟩ := h
    refine ⟨_, pss_cons (ps_if (PW.pt (pw_or (pt_cmpR op_gt (pe_callB call_len_str (by rfl) ml PySem.boot_len (pa_cons (pv 0) pa_nil)) (pe_glob (v := .int 60) (by rfl) mm ⟨_, rfl⟩) (nomark _)) (pw_or1 (pt_val (pe_m1 PySem.F.slot_str_startswith PySem.F.type_str_startswith mt_startswith (pv 0) pe_str))))) (pss_one (ps_ret pe_bl)) pss_nil)
      (pss_one (ps_ret (pe_and (pe_m0 PySem.F.slot_str_isascii PySem.F.type_str_isascii mt_isascii (pv 0)) (pe_one (pe_m0 PySem.F.slot_str_isdigit PySem.F.type_str_isdigit mt_isdigit (pv 0)))))), ?_⟩
    have e1 : decide ((60 : Int) < (w.length : Int)) = false := decide_eq_false (by omega)
    refine ⟨_, rfl, w, rfl, Nat.le_trans f1 (by decide), w.length, 60, rfl, rfl, _, rfl, ?_⟩
    rw [e1]
    refine iteF ?_
    refine ⟨_, rfl, ⟨_, rfl⟩, w, _, rfl, rfl, _, rfl, ?_⟩
    rw [f2]
    refine iteF ?_
    refine ⟨_, rfl, ⟨_, rfl⟩, w, rfl, rfl, trivial, _, rfl, ?_⟩
    rw [f3]
    refine iteT ?_
    refine ⟨_, rfl, ⟨_, rfl⟩, w, rfl, rfl, trivial, ?_⟩
    rw [f4]
    exact q
theorem ok_nm {g : Addr} {fd : FuncData} (F : Fun K "is_name" "is_name" (topS 8) g fd) (ml : mg "len" = none) (mi : mg "isinstance" = none) (ms : mg "str" = none) : FnOk P w K mg base CX0 1 g fd ["thing"] spNm := by
  refine F.ok scNm (fun vs H Q E h => ?_) (fun cdv A outer s H vs Q E hr h => ?_)
  · obtain ⟨w, rfl, _⟩ := h
    rfl
  · obtain ⟨w, rfl, hw, q⟩ := h
    obtain ⟨f1, f2, f3, f4⟩ := nm_facts hw
    refine ⟨_, pss_cons (ps_if (PW.pt (pw_or (pt_not (pt_val (pe_callB call_isi (by rfl) mi (by decide +kernel) (pa_cons (pv 0) (pa_cons (pe_bltn (v := .ty "str") (by rfl) ms (by decide +kernel) rfl) pa_nil))))) (pw_or1 (pt_cmpR op_gt (pe_callB call_len_str (by rfl) ml PySem.boot_len (pa_cons (pv 0) pa_nil)) pe_int (nomark _))))) (pss_one (ps_ret pe_bl)) pss_nil)
      (pss_one (ps_ret (pe_and (pe_m0 PySem.F.slot_str_isascii PySem.F.type_str_isascii mt_isascii (pv 0)) (pe_and (pe_m0 PySem.F.slot_str_isalpha PySem.F.type_str_isalpha mt_isalpha (pv 0)) (pe_one (pe_m0 PySem.F.slot_str_islower PySem.F.type_str_islower mt_islower (pv 0))))))), ?_⟩
    have e1 : decide ((8 : Int) < (w.length : Int)) = false := decide_eq_false (by omega)
    refine ⟨_, rfl, .str w, .ty "str", .type "str", .type "str", true, rfl, .ty _, .base (.str w), kit_ty (by decide +kernel), _, rfl, ?_⟩
    refine iteF ?_
    refine ⟨_, rfl, w, rfl, Nat.le_trans f1 (by decide), w.length, 8, rfl, rfl, _, rfl, ?_⟩
    rw [e1]
    refine iteF ?_
    refine ⟨_, rfl, ⟨_, rfl⟩, w, rfl, rfl, trivial, _, rfl, ?_⟩
    rw [f2]
    refine iteT ⟨_, rfl, ⟨_, rfl⟩, w, rfl, rfl, trivial, _, rfl, ?_⟩
    rw [f3]
    refine iteT ⟨_, rfl, ⟨_, rfl⟩, w, rfl, rfl, trivial, ?_⟩
    rw [f4]
    exact q
end
end Kn


namespace Kn
open PySem PySem.Spec PyProof.Rows L2
section
variable {P : Program} {w : World} {K : PySem.W.Frag} {mg : Str → Option Value} {base : Heap}
theorem asc_next {r : List Str} (h : Asc r) {i : Nat} {x y : Str} (hx : r[i]? = some x) (hy : r[i + 1]? = some y) : decide (x.cps.toList < y.cps.toList) = true := by
  obtain ⟨h1, e1⟩ := List.getElem?_eq_some_iff.mp hx
  obtain ⟨h2, e2⟩ := List.getElem?_eq_some_iff.mp hy
  have q := List.pairwise_iff_getElem.mp h i (i + 1) h1 h2 (by omega)
  rw [e1, e2] at q
  exact (ltCps_eq _ _).symm.trans q
theorem ok_it {g gN : Addr} {fd fdN : FuncData} (F : Fun K "is_table" "is_table" (topS 9) g fd) (N : Fun K "is_name" "is_name" (topS 8) gN fdN) (bN : Binds K fdN ["thing"] []) (mN : mg "is_name" = some (.ref gN)) (GN : FnOk P w K mg base CX0 1 gN fdN ["thing"] spNm)
    (mi : mg "isinstance" = none) (mt : mg "tuple" = none) (me : mg "enumerate" = none) : FnOk P w K mg base CX0 2 g fd ["thing"] (spIt K) := by
  refine F.ok scIt (fun vs H Q E h => ?_) (fun cdv A outer s H vs Q E hr h => ?_)
  · obtain ⟨a, r, rfl, _⟩ := h
    rfl
  · obtain ⟨a, r, rfl, hT, ⟨r1, r2, r3⟩, q⟩ := h
    refine ⟨_, pss_cons (ps_if (pt_not (pt_val (pe_callB call_isi (by rfl) mi (by decide +kernel) (pa_cons (pv 0) (pa_cons (pe_bltn (v := .ty "tuple") (by rfl) mt (by decide +kernel) rfl) pa_nil))))) (pss_one (ps_ret pe_bl)) pss_nil)
      (pss_cons (ps_for PassesOwn.never rfl (En.pi_enT (by rfl) me (pa_cons (pv 0) pa_nil)) (pg_tup (by rfl) (pgs_cons (pg_name (i := 1) scIt.nd rfl (.inl rfl)) (pgs_cons (pg_name (i := 2) scIt.nd rfl (.inl rfl)) pgs_nil)))
        (pss_cons (ps_if (pt_not (pt_val (pe_call GN hr (by rfl) mN N.kp bN .nil pass0 (pa_cons (pv 2) pa_nil)))) (pss_one (ps_ret pe_bl)) pss_nil)
        (pss_one (ps_if (PW.pt (pw_and (pt_cmpR op_gt (pv 1) pe_int (nomark _)) (pw_and1 (pt_cmpR op_ge_str (pe_ix ix_tup (pv 0) (pe_op op_sub (pv 1) pe_int) (fun _ _ => rfl)) (pv 2) (nomark _))))) (pss_one (ps_ret pe_bl)) pss_nil))))
      (pss_one (ps_ret pe_bl))), ?_⟩
    refine ⟨_, rfl, .ref a, .ty "tuple", .type "tuple", .type "tuple", true, rfl, .ty _, .base (.tup hT), kit_ty (by decide +kernel), _, rfl, ?_⟩
    refine iteF ?_
    refine ⟨.ref a, rfl, a, r.map V.str, rfl, .inl (.inl hT), for_it En.walk_enT (fun i σ G => ∃ y1 y2, σ = [some (.ref a), y1, y2] ∧ Same H G) ⟨none, none, rfl, Same.refl H⟩ (fun i σ G _ ⟨_, _, _, s⟩ => tupS s (.inl (.inl hT))) ?_ ?_⟩
    · rintro i x σ G G' hi ⟨y1, y2, rfl, sG⟩ ⟨T, k, v, rfl, nT, rfl, hk, hv⟩
      obtain rfl : V.int (i : Nat) = k := Option.some.inj hk
      obtain ⟨z, hz, rfl⟩ := map_get hv
      have sN := putS (o := .tup [V.int (i : Nat), V.str z]) sG (sG.free nT)
      have hzn := r2 z (List.mem_of_getElem? hz)
      refine ⟨T, _, rfl, .inl (.inl upd_same), rfl, _, _, rfl, _, _, rfl, rfl, ?_⟩
      refine ⟨_, rfl, z, rfl, List.mem_append_left _ hzn, _, rfl, ?_⟩
      refine iteF ?_
      refine ⟨_, rfl, (i : Nat), 0, rfl, rfl, _, rfl, ite2 (fun c => ?_) (fun _ => ?_)⟩
      · have c0 : 0 < i := by
          have := of_decide_eq_true c
          omega
        obtain ⟨j, rfl⟩ : ∃ j, i = j + 1 := ⟨i - 1, by omega⟩
        have hj : j < r.length := by
          have := (List.getElem?_eq_some_iff.mp hz).1
          omega
        have ex : (r.map V.str)[j]? = some (.str r[j]) := by
          rw [List.getElem?_map, List.getElem?_eq_getElem hj]
          rfl
        have lt := asc_next r3 (List.getElem?_eq_getElem hj) hz
        refine ⟨.ref a, rfl, _, rfl, ((j + 1 : Nat) : Int), 1, rfl, rfl, a, r.map V.str, _, .str r[j], rfl, rfl, tupS sN (.inl (.inl hT)), at_of (j := j) (by omega) ex, _, rfl, _, _, rfl, rfl, _, rfl, ?_⟩
        rw [lt]
        exact iteF ⟨_, _, rfl, sN⟩
      · exact iteF ⟨_, _, rfl, sN⟩
    · rintro σ G ⟨y1, y2, rfl, sG⟩
      exact q G sG
theorem ok_tr {g : Addr} {fd : FuncData} (F : Fun K "table_read" "table_read" (topS 12) g fd) (mt : mg "tuple" = none) : FnOk P w K mg base CX0 1 g fd ["word"] (spTr K) := by
  refine F.ok scTr (fun vs H Q E h => ?_) (fun cdv A outer s H vs Q E hr h => ?_)
  · obtain ⟨r, rfl, _⟩ := h
    rfl
  · obtain ⟨r, rfl, ok, q⟩ := h
    refine ⟨_, pss_one (ps_ret (pe_ifExp (pt_cmpR op_eq (pv 0) pe_str (nomark _)) (pe_tup pa_nil) (pe_callTy call_tuple_of (by rfl) mt boot_tuple (pa_cons (pe_split (pv 0) pe_str) pa_nil)))), ?_⟩
    refine ⟨_, rfl, rfl, _, rfl, ?_⟩
    by_cases ne : r = []
    · subst ne
      refine ite2 (fun _ => ⟨Nat.zero_le _, fun p np => q p _ (same_new np) upd_same⟩) (fun c => ?_)
      exact absurd (decide_eq_true rfl) c
    · obtain ⟨n1, n2⟩ := tabT_cut ok ne
      have e1 : decide (V.str (tabT r) = V.str ("-" : Str)) = false := decide_eq_false fun z => n1 (V.str.inj z)
      rw [e1]
      refine iteF ?_
      refine ⟨_, rfl, ⟨_, rfl⟩, _, _, rfl, rfl, rfl, Nat.le_trans (Nat.add_le_add_right (tabT_fit ok.1 fun s hs => names_fit s (ok.2.1 s hs)).1 2) (by decide), fun L nL => ?_⟩
      rw [n2]
      refine ⟨L, r.map V.str, rfl, .inl ⟨.inl (.inl upd_same), fun p np => q p _ (putS (same_new nL) ((same_new nL).free np)) upd_same⟩⟩
theorem ok_can {g gN gF gI gT : Addr} {fd fdN fdF fdI fdT : FuncData} (F : Fun K "can_stand" "can_stand" (topS 13) g fd) (N : Fun K "is_name" "is_name" (topS 8) gN fdN) (bN : Binds K fdN ["thing"] []) (mN : mg "is_name" = some (.ref gN)) (GN : FnOk P w K mg base CX0 1 gN fdN ["thing"] spNm)
    (G : Fun K "is_figures" "is_figures" (topS 6) gF fdF) (bG : Binds K fdF ["word"] []) (mG : mg "is_figures" = some (.ref gF)) (GG : FnOk P w K mg base CX0 1 gF fdF ["word"] spFig)
    (I : Fun K "is_table" "is_table" (topS 9) gI fdI) (bI : Binds K fdI ["thing"] []) (mI : mg "is_table" = some (.ref gI)) (GI : FnOk P w K mg base CX0 2 gI fdI ["thing"] (spIt K))
    (T : Fun K "table_read" "table_read" (topS 12) gT fdT) (bT : Binds K fdT ["word"] []) (mT : mg "table_read" = some (.ref gT)) (GT : FnOk P w K mg base CX0 1 gT fdT ["word"] (spTr K)) :
    FnOk P w K mg base CX0 3 g fd ["k", "word"] spCan := by
  refine F.ok scCan (fun vs H Q E h => ?_) (fun cdv A outer s H vs Q E hr h => ?_)
  · obtain ⟨k, x, rfl, _⟩ := h
    rfl
  · obtain ⟨k, x, rfl, st, q⟩ := h
    have hr1 : Room 1 _ := hr.mono (by decide)
    refine ⟨_, pss_cons (ps_if (pt_cmpR op_eq (pv 0) pe_int (nomark _)) (pss_one (ps_ret (pe_cmpR op_eq (pv 1) pe_str (nomark _)))) pss_nil)
      (pss_cons (ps_if (pt_cmpR op_eq (pv 0) pe_int (nomark _)) (pss_one (ps_ret (pe_call GN hr1 (by rfl) mN N.kp bN .nil pass0 (pa_cons (pv 1) pa_nil)))) pss_nil)
      (pss_cons (ps_if (pt_cmpR op_eq (pv 0) pe_int (nomark _)) (pss_one (ps_ret (pe_call GG hr1 (by rfl) mG G.kp bG .nil pass0 (pa_cons (pv 1) pa_nil)))) pss_nil)
      (pss_cons (ps_if (pt_cmpR op_eq (pv 0) pe_int (nomark _)) (pss_one (ps_ret (pe_cmpR op_in_seq (pv 1) (pe_tup (pa_cons pe_str (pa_cons pe_str pa_nil))) (by rfl)))) pss_nil)
      (pss_one (ps_ret (pe_and (pe_cmpR op_eq (pv 0) pe_int (nomark _)) (pe_one (pe_call GI hr (by rfl) mI I.kp bI .nil pass0 (pa_cons (pe_call GT hr1 (by rfl) mT T.kp bT .nil pass0 (pa_cons (pv 1) pa_nil)) pa_nil))))))))), ?_⟩
    have no : ∀ a b : Int, a ≠ b → ∀ {A B : Prop}, B → if decide (V.int a = V.int b) = true then A else B := fun a b ne A B h => by
      rw [decide_eq_false fun z => ne (V.int.inj z)]
      exact iteF h
    have yes : ∀ a : Int, ∀ {A B : Prop}, A → if decide (V.int a = V.int a) = true then A else B := fun a A B h => by
      rw [decide_eq_true rfl]
      exact iteT h
    cases st with
    | kind =>
      refine ⟨_, rfl, rfl, _, rfl, yes 0 ?_⟩
      refine ⟨_, rfl, rfl, ?_⟩
      exact q H (Same.refl H)
    | name hw =>
      refine ⟨_, rfl, rfl, _, rfl, no 1 0 (by decide) ⟨_, rfl, rfl, _, rfl, yes 1 ?_⟩⟩
      exact ⟨_, rfl, _, rfl, hw, q H (Same.refl H)⟩
    | fee hf =>
      refine ⟨_, rfl, rfl, _, rfl, no 2 0 (by decide) ⟨_, rfl, rfl, _, rfl, no 2 1 (by decide) ⟨_, rfl, rfl, _, rfl, yes 2 ?_⟩⟩⟩
      exact ⟨_, rfl, _, rfl, hf, q H (Same.refl H)⟩
    | has b =>
      refine ⟨_, rfl, rfl, _, rfl, no 3 0 (by decide) ⟨_, rfl, rfl, _, rfl, no 3 1 (by decide) ⟨_, rfl, rfl, _, rfl, no 3 2 (by decide) ⟨_, rfl, rfl, _, rfl, yes 3 ?_⟩⟩⟩⟩
      refine ⟨_, rfl, (show 2 ≤ sizeLine by decide), fun p np => ⟨p, _, rfl, .inr (.inl (.inl upd_same)), rfl, rfl, ?_⟩⟩
      have e : inV (V.str (wordT b)) [V.str "has", V.str "not"] = true := by cases b <;> decide +kernel
      show Q (.bl (if false = true then _ else inV (V.str (wordT b)) [V.str "has", V.str "not"])) _
      rw [if_neg Bool.false_ne_true, e]
      exact q _ (same_new np)
    | row ok =>
      refine ⟨_, rfl, rfl, _, rfl, no 4 0 (by decide) ⟨_, rfl, rfl, _, rfl, no 4 1 (by decide) ⟨_, rfl, rfl, _, rfl, no 4 2 (by decide) ⟨_, rfl, rfl, _, rfl, no 4 3 (by decide) ?_⟩⟩⟩⟩
      refine ⟨_, rfl, rfl, _, rfl, yes 4 ?_⟩
      refine ⟨_, rfl, _, rfl, ok, fun p G s1 hp => ⟨p, _, rfl, hp, ok, fun G' s2 => q G' (s1.trans s2)⟩⟩
end
end Kn


namespace Kn
open PySem PySem.Spec PyProof.Rows L2
theorem kbn0 {K : PySem.W.Frag} {x qual : Str} {params : Arguments} {body : List Stmt} {scope : Scope} {kws : List (Str × V)} {f : Addr} {fd : FuncData} {ps : List Str} (F : FunD K x qual params body scope [] kws f fd) (n : Nat) (ks : List Str) (ms : List (Str × V)) (hk : kws ≠ []) (hms : ∀ q ∈ ms, q ∈ kws)
    (h : ∀ (D : Addr) (doc pm : Value) (an : Option Addr) (cdv ct : Value) (us mv ws : List Value), us.length = n → mv.length = ms.length → ws.length = ks.length →
      KwChain D ((ms.map (·.1)).zip mv) (bindArgs (PySem.W.fnOf x qual params body scope .none (.ref D) doc pm an cdv ct) ⟨us, ks.zip ws⟩) (ps.zip (us ++ (ws ++ mv)))) :
    ∃ mv : List Value, KBn K fd ps n ks (fun us ws => us ++ (ws ++ mv)) (fun vs zs => vs ++ (zs ++ ms.map (·.2))) := by
  obtain ⟨oc, od, dV, kV, doc, pm, an, cdv, ct, osl, rfl, look, cdOk, hD, hK⟩ := F.ex
  rcases hD with ⟨_, rfl⟩ | ⟨no, _⟩
  · rcases hK with no | ⟨D, rfl, hq⟩
    · exact absurd no hk
    · obtain ⟨mv, many, rv, at_⟩ := kwd_vals (ms := ms) (fun q hm => hq q (hms q hm))
      exact ⟨mv, fun s us ws X l1 l2 => BindsTo.of_looks fun M => KwChain.looks X at_ (h D doc pm an cdv ct us mv ws l1 many l2), fun r1 r2 => r1.append (r2.append rv)⟩
  · exact absurd rfl no
abbrev kw2 : List (Str × V) := [("line", .int 0), ("field", .int 0)]
/-! ### what is cut where -/
def parts (e : Ent) : List Str := ["kind", e.name, feeT e.fee, wordT e.has, tabT e.row]
theorem wordT_noC (b : Bool) : NoC 32 (wordT b) ∧ NoC 10 (wordT b) := by
  cases b <;> exact ⟨by unfold NoC; decide +kernel, by unfold NoC; decide +kernel⟩
theorem parts_noC {e : Ent} (h : e.ok) (k : e.nice) {c : Nat} (hc : c = 32 ∨ c = 10) : ∀ x ∈ parts e, NoC c x := by
  intro x hx
  simp only [parts, List.mem_cons, List.not_mem_nil, or_false] at hx
  rcases hx with rfl | rfl | rfl | rfl | rfl
  · rcases hc with rfl | rfl <;> (unfold NoC; decide +kernel)
  · rcases hc with rfl | rfl
    · exact (names_noC k.1).1
    · exact (names_noC k.1).2.2.2
  · rcases hc with rfl | rfl
    · exact (fee_noC k.2.1).1
    · exact (fee_noC k.2.1).2.2
  · rcases hc with rfl | rfl
    · exact (wordT_noC _).1
    · exact (wordT_noC _).2
  · exact tabT_noC (Ent.row_ok h k) hc
theorem line_cut {e : Ent} (h : e.ok) (k : e.nice) : Txt.split (lineT e) " " = parts e := by
  have z : lineT e = Txt.join " " (parts e) := by rw [TL.join_eq]; rfl
  rw [z]
  exact TL.split_join (s := 32) (S := []) (by decide +kernel) (by decide +kernel) (by simp [parts]) (parts_noC h k (.inl rfl))
theorem nm_noC {w : Str} (h : w ∈ nm) : NoC 32 w ∧ NoC 10 w := by
  rcases List.mem_append.mp h with h | h
  · exact ⟨(names_noC h).1, (names_noC h).2.2.2⟩
  · rw [List.mem_singleton.mp h]
    exact ⟨by unfold NoC; decide +kernel, by unfold NoC; decide +kernel⟩
theorem ask_cut {a : Str} (h : a ∈ nm) : Txt.split (("asker " : Str) ++ a) " " = [("asker" : Str), a] := by
  have z : ("asker " : Str) ++ a = Txt.join " " [("asker" : Str), a] := by
    rw [TL.join_eq]
    show ("asker " : Str) ++ a = ("asker" : Str) ++ (" " : Str) ++ a
    rw [show ("asker " : Str) = ("asker" : Str) ++ (" " : Str) by decide +kernel]
  rw [z]
  refine TL.split_join (s := 32) (S := []) (by decide +kernel) (by decide +kernel) (by simp) fun x hx => ?_
  simp only [List.mem_cons, List.not_mem_nil, or_false] at hx
  rcases hx with rfl | rfl
  · decide +kernel
  · exact (nm_noC h).1
theorem num_cut {t : List Int} (ne : t ≠ []) (h : ∀ i ∈ t, i ∈ feesAll) : Txt.split (numT t) " " = [numT t] ∧ Txt.split (numT t) "," = t.map feeT := by
  have c32 : NoC 32 (numT t) := NoC.join (by unfold NoC; decide +kernel) _ fun x hx => by
    obtain ⟨i, hi, rfl⟩ := List.mem_map.mp hx
    exact (fee_noC (h i hi)).1
  refine ⟨?_, ?_⟩
  · have z : numT t = Txt.join " " [numT t] := by rw [TL.join_eq]; rfl
    have q := TL.split_join (y := " ") (s := 32) (S := []) (parts := [numT t]) (by decide +kernel) (by decide +kernel) (by simp) (fun x hx => by rw [List.mem_singleton.mp hx]; exact c32)
    rw [← z] at q
    exact q
  · have z : numT t = Txt.join "," (t.map feeT) := by rw [TL.join_eq]; rfl
    rw [z]
    refine TL.split_join (s := 44) (S := []) (by decide +kernel) (by decide +kernel) (by simpa using ne) fun x hx => ?_
    obtain ⟨i, hi, rfl⟩ := List.mem_map.mp hx
    exact (fee_noC (h i hi)).2.1
def linesT (g : Pg) : List Str := g.es.map lineT ++ [("asker " : Str) ++ g.asks]
theorem page_cut {g : Pg} (h : g.ok) (k : ∀ e ∈ g.es, e.nice) (ha : g.asks ∈ nm) : Txt.split (pageT g) "\n" = linesT g := by
  have z : pageT g = Txt.join "\n" (linesT g) := by rw [TL.join_eq]; rfl
  rw [z]
  refine TL.split_join (s := 10) (S := []) (by decide +kernel) (by decide +kernel) (by simp [linesT]) fun x hx => ?_
  rcases List.mem_append.mp hx with hx | hx
  · obtain ⟨e, he, rfl⟩ := List.mem_map.mp hx
    exact NoC.join (by unfold NoC; decide +kernel) _ (parts_noC (h.2.1 e he) (k e he) (.inr rfl))
  · rw [List.mem_singleton.mp hx]
    intro q
    rw [TL.tl_append, List.mem_append] at q
    rcases q with q | q
    · exact absurd q (by decide +kernel)
    · exact (nm_noC ha).2 q

abbrev nKr : List Str := ["text", "line", "field", "words", "k", "word", "_", "name", "fee", "has", "table"]
theorem scKr : FnScope nKr ["text", "line", "field"] (defScope (topS 14)) := ⟨rfl, rfl, rfl, by decide +kernel, rfl, by decide +kernel, by decide +kernel⟩
abbrev nIw : List Str := ["word", "part"]
theorem scIw : FnScope nIw ["word"] (defScope (topS 15)) := ⟨rfl, rfl, rfl, by decide +kernel, rfl, by decide +kernel, by decide +kernel⟩
abbrev nNr : List Str := ["text", "line", "field", "words", "part"]
theorem scNr : FnScope nNr ["text", "line", "field"] (defScope (topS 16)) := ⟨rfl, rfl, rfl, by decide +kernel, rfl, by decide +kernel, by decide +kernel⟩
abbrev nAr : List Str := ["text", "line", "words"]
theorem scAr : FnScope nAr ["text", "line"] (defScope (topS 17)) := ⟨rfl, rfl, rfl, by decide +kernel, rfl, by decide +kernel, by decide +kernel⟩
abbrev nWr : List Str := ["text", "lines", "kinds", "k", "row", "asker"]
theorem scWr : FnScope nWr ["text"] (defScope (topS 18)) := ⟨rfl, rfl, rfl, by decide +kernel, rfl, by decide +kernel, by decide +kernel⟩
def spKr (K : PySem.W.Frag) : Sp := fun vs H Q _ => ∃ (e : Ent) (l m : V), vs = [.str (lineT e), l, m] ∧ e.ok ∧ e.nice ∧ ∀ v H', Same H H' → EntAt K H' v e → Q v H'
def spNr (K : PySem.W.Frag) : Sp := fun vs H Q _ => ∃ (t : List Int) (l m : V), vs = [.str (numT t), l, m] ∧ t ≠ [] ∧ t.length ≤ 8 ∧ (∀ i ∈ t, i ∈ feesAll) ∧ ∀ p H', Same H H' → SqT K H' p (t.map V.int) → Q (.ref p) H'
def spIw : Sp := fun vs H Q _ => ∃ (t : List Int), vs = [.str (numT t)] ∧ t ≠ [] ∧ t.length ≤ 8 ∧ (∀ i ∈ t, i ∈ feesAll) ∧ ∀ H', Same H H' → Q (.bl true) H'
def spAr : Sp := fun vs H Q _ => ∃ (a : Str) (l : V), vs = [.str (("asker " : Str) ++ a), l] ∧ a ∈ nm ∧ a.length ≤ 8 ∧ ∀ H', Same H H' → Q (.str a) H'
def spWr (K : PySem.W.Frag) : Sp := fun vs H Q _ => ∃ g : Pg, vs = [.str (pageT g)] ∧ g.ok ∧ (∀ e ∈ g.es, e.nice) ∧ g.asks ∈ nm ∧ ∀ v H', Same H H' → PgAt K H' v g → Q v H'
section
variable {P : Program} {w : World} {K : PySem.W.Frag} {mg : Str → Option Value} {base : Heap}
theorem ok_kr {g gC gT : Addr} {fd fdC fdT : FuncData} {tk : Tok} (F : FunD K "kind_read" "kind_read" (defArgs (topS 14)) (defBody (topS 14)) (defScope (topS 14)) [] kw2 g fd)
    (C : Fun K "can_stand" "can_stand" (topS 13) gC fdC) (bC : Binds K fdC ["k", "word"] []) (mC : mg "can_stand" = some (.ref gC)) (GC : FnOk P w K mg base CX0 3 gC fdC ["k", "word"] spCan)
    (T : Fun K "table_read" "table_read" (topS 12) gT fdT) (bT : Binds K fdT ["word"] []) (mT : mg "table_read" = some (.ref gT)) (GT : FnOk P w K mg base CX0 1 gT fdT ["word"] (spTr K))
    (me : mg "enumerate" = none) (ml : mg "len" = none) (mi : mg "int" = none) (mk : mg "KIND_WORDS" = some (.int 5 tk)) : FnOk P w K mg base CX0 4 g fd ["text", "line", "field"] (spKr K) := by
  refine F.ok scKr (fun vs H Q E h => ?_) (fun cdv A outer s H vs Q E hr h => ?_)
  · obtain ⟨e, l, m, rfl, _⟩ := h
    rfl
  · obtain ⟨e, l, m, rfl, ok, nice, q⟩ := h
    have hr1 : Room 1 _ := hr.mono (by decide)
    refine ⟨_, PSs.nox (pss_cons (ps_set (i := 3) scKr.nd rfl (.inl rfl) (pe_split (pv 0) pe_str))
      (pss_cons (ps_for PassesOwn.never rfl (pi_enum (by rfl) me (pa_cons (pv 3) pa_nil)) (pg_tup (by rfl) (pgs_cons (pg_name (i := 4) scKr.nd rfl (.inl rfl)) (pgs_cons (pg_name (i := 5) scKr.nd rfl (.inl rfl)) pgs_nil)))
        (pss_one (ps_if (pt_not (pt_val (pe_call GC hr (by rfl) mC C.kp bC .nil pass0 (pa_cons (pv 4) (pa_cons (pv 5) pa_nil))))) (pss_one ps_never) pss_nil)))
      (pss_cons (ps_if (pt_cmpR op_lt (pe_callB call_len_seq (by rfl) ml PySem.boot_len (pa_cons (pv 3) pa_nil)) (pe_glob (v := .int 5) (by rfl) mk ⟨_, rfl⟩) (nomark _)) (pss_one ps_never) pss_nil)
      (pss_cons (ps_asg (pv 3) (pg_unl (n := 5) (by rfl) (pgs_cons (pg_name (i := 6) scKr.nd rfl (.inl rfl)) (pgs_cons (pg_name (i := 7) scKr.nd rfl (.inl rfl)) (pgs_cons (pg_name (i := 8) scKr.nd rfl (.inl rfl)) (pgs_cons (pg_name (i := 9) scKr.nd rfl (.inl rfl)) (pgs_cons (pg_name (i := 10) scKr.nd rfl (.inl rfl)) pgs_nil)))))))
      (pss_one (ps_ret (pe_tup (pa_cons (pv 7) (pa_cons (pe_callTy call_int_str (by rfl) mi boot_int (pa_cons (pv 8) pa_nil)) (pa_cons (pe_cmpR op_eq (pv 9) pe_str (nomark _)) (pa_cons (pe_call GT hr1 (by rfl) mT T.kp bT .nil pass0 (pa_cons (pv 10) pa_nil)) pa_nil))))))))))), ?_⟩
    refine ⟨_, rfl, ⟨_, rfl⟩, _, _, rfl, rfl, rfl, Nat.le_trans (Nat.add_le_add_right (lineT_fit ok).1 2) (by decide), fun L nL => ?_⟩
    rw [line_cut ok nice]
    have eL : (upd H L (.lst ((parts e).map V.str))) L = some (.lst ((parts e).map V.str)) := upd_same
    have s0 := same_new (o := .lst ((parts e).map V.str)) nL
    generalize upd H L (.lst ((parts e).map V.str)) = H1 at eL s0 ⊢
    refine ⟨.ref L, rfl, L, _, rfl, .inl (.inl eL), for_it walk_enum (fun i σ G => ∃ y4 y5, σ = [some (.str (lineT e)), some l, some m, some (.ref L), y4, y5, none, none, none, none, none] ∧ Same H1 G) ⟨none, none, rfl, Same.refl _⟩ (fun i σ G _ ⟨_, _, _, s⟩ => .inl (.inl (s _ _ eL))) ?_ ?_⟩
    · rintro i x σ G G' hi ⟨y4, y5, rfl, sG⟩ ⟨T', k, v, rfl, nT, rfl, hk, hv⟩
      obtain rfl : V.int (i : Nat) = k := Option.some.inj hk
      obtain ⟨z, hz, rfl⟩ := map_get hv
      refine ⟨T', _, rfl, .inl (.inl upd_same), rfl, _, _, rfl, _, _, rfl, rfl, ?_⟩
      have st : Stands (i : Nat) z := by
        have hi5 : i < 5 := hi
        match i, hi5, hz with
        | 0, _, hz =>
          obtain rfl := Option.some.inj hz
          exact .kind
        | 1, _, hz =>
          obtain rfl := Option.some.inj hz
          exact .name (List.mem_append_left _ nice.1)
        | 2, _, hz =>
          obtain rfl := Option.some.inj hz
          exact .fee (figs_fee nice.2.1)
        | 3, _, hz =>
          obtain rfl := Option.some.inj hz
          exact .has e.has
        | 4, _, hz =>
          obtain rfl := Option.some.inj hz
          exact .row (Ent.row_ok ok nice)
      refine ⟨_, rfl, _, rfl, _, z, rfl, st, fun G2 s2 => ⟨true, rfl, iteF ⟨_, _, rfl, (putS sG (sG.free nT)).trans s2⟩⟩⟩
    · rintro σ G ⟨y4, y5, rfl, sG⟩
      have eG := sG _ _ eL
      refine ⟨.ref L, rfl, L, _, rfl, .inl (.inl (.inl eG)), _, _, rfl, rfl, _, rfl, iteF ?_⟩
      refine ⟨.ref L, rfl, L, _, rfl, .inl (.inl eG), rfl, _, _, rfl, _, _, rfl, _, _, rfl, _, _, rfl, _, _, rfl, rfl, ?_⟩
      refine ⟨_, rfl, _, rfl, feeT e.fee, e.fee, rfl, read_fee nice.2.1, Nat.le_trans (feeT_fit ok.2.1).1 (by decide), _, rfl, rfl, _, rfl, e.row, rfl, Ent.row_ok ok nice, fun p G1 s1 hp => ⟨(show 4 ≤ sizeLine by decide), fun t nt => ?_⟩⟩
      have eh : decide (V.str (wordT e.has) = V.str ("has" : Str)) = e.has := by cases e.has <;> decide +kernel
      rw [eh]
      exact q (.ref t) _ (((s0.trans sG).trans s1).trans (same_new nt)) ⟨t, p, rfl, .inl (.inl upd_same), .inl (.inl (same_new nt _ _ hp))⟩
end
end Kn


/-! Kn: a comprehension over a list that is made on the way. -/
namespace Kn
open PySem PySem.Spec PyProof.Rows L2
theorem lc_mapL3 {K : PySem.W.Frag} {xs : List V} {slot : Nat} {te tl : TE} {vs : List Nat} {σ : L2.St} {H : Hp} {Q : VK} (ys : List V) (hl : ys.length = xs.length) (hs : xs.length ≤ 1000)
    (htl : ∀ R : VK, (∀ (a : Addr) (H1 : Hp), Same H H1 → SqL K H1 a xs → R (.ref a) H1) → tl σ H R) (w : ∀ v, wipe ((wipe σ vs).set slot (some v)) vs = wipe σ vs)
    (turn : ∀ (i : Nat) (x y : V) (G : Hp) (R : VK), xs[i]? = some x → ys[i]? = some y → Same H G → (∀ G', Same G G' → R y G') → te ((wipe σ vs).set slot (some x)) G R)
    (done : ∀ (D : Addr) (G : Hp), Same H G → G D = some (.lst ys) → Q (.ref D) G) : tLc (iList K tl) (gName slot) tYes te vs σ H Q := by
  refine htl _ fun a H1 s1 hT => ?_
  show tLc (iList K (fun _ H R => R (V.ref a) H)) (gName slot) tYes te vs σ H1 Q
  exact lc_mapL ys hl hs hT (fun R r => r) w (fun i x y G R hx hy s k => turn i x y G R hx hy (s1.trans s) k) (fun D G _ s e => done D G (s1.trans s) e)
end Kn


namespace Kn
open PySem PySem.Spec PyProof.Rows L2
theorem g_at {i : Nat} {v : V} {σ : L2.St} {H : Hp} {t u : L2.TS} {D : Ends} (h : tSeq t u D (σ.set i (some v)) H) : gName i v σ H (tSeq t u D) := h
section
variable {P : Program} {w : World} {K : PySem.W.Frag} {mg : Str → Option Value} {base : Heap}
theorem ok_iw {g gF : Addr} {fd fdF : FuncData} (F : Fun K "is_numbers_word" "is_numbers_word" (topS 15) g fd)
    (G : Fun K "is_figures" "is_figures" (topS 6) gF fdF) (bG : Binds K fdF ["word"] []) (mG : mg "is_figures" = some (.ref gF)) (GG : FnOk P w K mg base CX0 1 gF fdF ["word"] spFig)
    (ma : mg "all" = none) : FnOk P w K mg base CX0 2 g fd ["word"] spIw := by
  refine F.ok scIw (fun vs H Q E h => ?_) (fun cdv A outer s H vs Q E hr h => ?_)
  · obtain ⟨t, rfl, _⟩ := h
    rfl
  · obtain ⟨t, rfl, ne, l8, ht, q⟩ := h
    obtain ⟨c1, c2⟩ := num_cut ne ht
    have fit : Fit 600 (numT t) := by
      refine (Fit.join (n := 61) (m := 1) (fit_of "," (by decide)) _ ?_).mono ?_
      · intro x hx
        obtain ⟨i, hi, rfl⟩ := List.mem_map.mp hx
        exact feeT_fit (feesAll_ok i (ht i hi))
      · rw [List.length_map]
        omega
    have room : (numT t).length + 2 ≤ sizeLine := Nat.le_trans (Nat.add_le_add_right fit.1 2) (by decide)
    refine ⟨_, pss_one (ps_ret (pe_callB (cr_all rfl) (by rfl) ma (by decide +kernel) (pa_cons (pe_lc (own := [("part", 1)]) (g := gName 1) (by rfl) scIw.nd (pi_list (pe_split (pv 0) pe_str)) (blkOk_by (own := [("part", 1)]) (N := nIw) (sc := defScope (topS 15)) (by decide +kernel))
          (fun _ _ _ _ _ => pg_name (i := 1) scIw.nd rfl (Or.inl rfl)) (fun _ _ _ _ _ => pts_nil) (fun _ _ _ _ _ => pe_call GG hr (by rfl) mG G.kp bG .nil pass0 (pa_cons (pv 1) pa_nil))) pa_nil))), ?_⟩
    have atF : ∀ {i : Nat} {x : V}, ((t.map feeT).map V.str)[i]? = some x → ∃ n, t[i]? = some n ∧ x = .str (feeT n) := by
      intro i x hx
      obtain ⟨y, hy, rfl⟩ := map_get hx
      obtain ⟨n, hn, rfl⟩ := map_get hy
      exact ⟨n, hn, rfl⟩
    dsimp only [tRet, tCB, tCons]
    refine lc_mapL3 (K := K) (xs := (t.map feeT).map V.str) ((t.map fun _ => true).map V.bl) (by simp) (by simp; omega) (fun R r => ⟨_, rfl, ⟨_, rfl⟩, _, _, rfl, rfl, rfl, room, fun M nM => ?_⟩) (fun v => rfl) ?_ ?_
    · rw [c2]
      exact r M _ (same_new nM) (.inl (.inl upd_same))
    · intro i x y J R hx hy sm k
      obtain ⟨n, hn, rfl⟩ := atF hx
      obtain ⟨b, hb, rfl⟩ := map_get hy
      obtain ⟨n', _, rfl⟩ := map_get hb
      exact ⟨_, rfl, _, rfl, figs_fee (ht n (List.mem_of_getElem? hn)), k J (Same.refl J)⟩
    intro D J sm hD
    have all : ((t.map fun _ => true).all id) = true := by simp
    refine ⟨D, t.map fun _ => true, rfl, .inl (.inl hD), ?_⟩
    rw [all]
    exact q _ sm
theorem ok_nr {g gF : Addr} {fd fdF : FuncData} (F : FunD K "numbers_read" "numbers_read" (defArgs (topS 16)) (defBody (topS 16)) (defScope (topS 16)) [] kw2 g fd)
    (FI : Fun K "is_numbers_word" "is_numbers_word" (topS 15) gF fdF) (bI : Binds K fdF ["word"] []) (mI : mg "is_numbers_word" = some (.ref gF)) (GI : FnOk P w K mg base CX0 2 gF fdF ["word"] spIw)
    (ml : mg "len" = none) (mi : mg "int" = none) (ma : mg "all" = none) (mt : mg "tuple" = none) : FnOk P w K mg base CX0 3 g fd ["text", "line", "field"] (spNr K) := by
  refine F.ok scNr (fun vs H Q E h => ?_) (fun cdv A outer s H vs Q E hr h => ?_)
  · obtain ⟨t, l, m, rfl, _⟩ := h
    rfl
  · obtain ⟨t, l, m, rfl, ne, l8, ht, q⟩ := h
    obtain ⟨c1, c2⟩ := num_cut ne ht
    have fit : Fit 600 (numT t) := by
      refine (Fit.join (n := 61) (m := 1) (fit_of "," (by decide)) _ ?_).mono ?_
      · intro x hx
        obtain ⟨i, hi, rfl⟩ := List.mem_map.mp hx
        exact feeT_fit (feesAll_ok i (ht i hi))
      · rw [List.length_map]
        omega
    have room : (numT t).length + 2 ≤ sizeLine := Nat.le_trans (Nat.add_le_add_right fit.1 2) (by decide)
    refine ⟨_, PSs.nox (pss_cons (ps_set (i := 3) scNr.nd rfl (.inl rfl) (pe_split (pv 0) pe_str))
      (pss_cons (ps_if (pt_not (pt_val (pe_call GI hr (by rfl) mI FI.kp bI .nil pass0 (pa_cons (pe_ix ix_list (pv 3) pe_int (fun _ _ => rfl)) pa_nil)))) (pss_one ps_never) pss_nil)
      (pss_cons (ps_if (pt_cmpR op_gt (pe_callB call_len_seq (by rfl) ml PySem.boot_len (pa_cons (pv 3) pa_nil)) pe_int (nomark _)) (pss_one ps_never) pss_nil)
      (pss_one (ps_ret (pe_callTy call_tuple_of (by rfl) mt boot_tuple (pa_cons (pe_lc (own := [("part", 4)]) (g := gName 4) (by rfl) scNr.nd (pi_list (pe_split (pe_ix ix_list (pv 3) pe_int (fun _ _ => rfl)) pe_str)) (blkOk_by (own := [("part", 4)]) (N := nNr) (sc := defScope (topS 16)) (by decide +kernel))
          (fun _ _ _ _ _ => pg_name (i := 4) scNr.nd rfl (Or.inl rfl)) (fun _ _ _ _ _ => pts_nil) (fun _ _ _ _ _ => pe_callTy call_int_str (by rfl) mi boot_int (pa_cons (pv 4) pa_nil))) pa_nil))))))), ?_⟩
    refine ⟨_, rfl, ⟨_, rfl⟩, _, _, rfl, rfl, rfl, room, fun L nL => ?_⟩
    rw [c1]
    have eL : (upd H L (.lst ([numT t].map V.str))) L = some (.lst ([numT t].map V.str)) := upd_same
    have s0 := same_new (o := .lst ([numT t].map V.str)) nL
    generalize upd H L (.lst ([numT t].map V.str)) = H1 at eL s0 ⊢
    refine ⟨.ref L, rfl, L, _, 0, .str (numT t), rfl, rfl, .inl (.inl eL), atI_nat (j := 0) rfl, t, rfl, ne, l8, ht, fun J s1 => ⟨true, rfl, iteF ?_⟩⟩
    have eLJ := s1 _ _ eL
    refine ⟨.ref L, rfl, L, _, rfl, .inl (.inl (.inl eLJ)), _, _, rfl, rfl, _, rfl, iteF ?_⟩
    dsimp only [tSeq, tNext, tRet, tCB, tCons]
    have atF : ∀ {i : Nat} {x : V}, ((t.map feeT).map V.str)[i]? = some x → ∃ n, t[i]? = some n ∧ x = .str (feeT n) := by
      intro i x hx
      obtain ⟨y, hy, rfl⟩ := map_get hx
      obtain ⟨n, hn, rfl⟩ := map_get hy
      exact ⟨n, hn, rfl⟩
    refine lc_mapL3 (K := K) (xs := (t.map feeT).map V.str) (t.map V.int) (by simp) (by simp; omega) (fun R r => ⟨.ref L, rfl, L, _, 0, .str (numT t), rfl, rfl, .inl (.inl eLJ), atI_nat (j := 0) rfl, ⟨_, rfl⟩, _, _, rfl, rfl, rfl, room, fun M nM => ?_⟩) (fun v => rfl) ?_ ?_
    · rw [c2]
      exact r M _ (same_new nM) (.inl (.inl upd_same))
    · intro i x y J3 R hx hy sm2 k
      obtain ⟨n, hn, rfl⟩ := atF hx
      obtain ⟨n', hn', rfl⟩ := map_get hy
      obtain rfl : n = n' := Option.some.inj (hn.symm.trans hn')
      have hf := ht n (List.mem_of_getElem? hn)
      exact ⟨_, rfl, _, _, rfl, read_fee hf, Nat.le_trans (feeT_fit (feesAll_ok n hf)).1 (by decide), k J3 (Same.refl J3)⟩
    intro D2 J3 sm2 hD2
    refine ⟨D2, t.map V.int, rfl, .inl ⟨.inl (.inl hD2), fun p np => q p _ ?_ (.inl (.inl upd_same))⟩⟩
    exact ((s0.trans s1).trans sm2).trans (same_new np)

theorem ok_ar {g gN : Addr} {fd fdN : FuncData} (F : Fun K "asker_read" "asker_read" (topS 17) g fd) (N : Fun K "is_name" "is_name" (topS 8) gN fdN) (bN : Binds K fdN ["thing"] []) (mN : mg "is_name" = some (.ref gN)) (GN : FnOk P w K mg base CX0 1 gN fdN ["thing"] spNm)
    (ml : mg "len" = none) : FnOk P w K mg base CX0 2 g fd ["text", "line"] spAr := by
  refine F.ok scAr (fun vs H Q E h => ?_) (fun cdv A outer s H vs Q E hr h => ?_)
  · obtain ⟨a, l, rfl, _⟩ := h
    rfl
  · obtain ⟨a, l, rfl, ha, l8, q⟩ := h
    have room : (("asker " : Str) ++ a).length + 2 ≤ sizeLine := by
      rw [len_app]
      exact Nat.le_trans (Nat.add_le_add_right (Nat.add_le_add (fit_of "asker " (n := 6) (by decide)).1 l8) 2) (by decide)
    refine ⟨_, pss_cons (ps_set (i := 2) scAr.nd rfl (.inl rfl) (pe_split (pv 0) pe_str))
      (pss_cons (ps_if (PW.pt (pw_or (pt_cmpR op_lt (pe_callB call_len_seq (by rfl) ml PySem.boot_len (pa_cons (pv 2) pa_nil)) pe_int (nomark _)) (pw_or1 (pt_not (pt_val (pe_call GN hr (by rfl) mN N.kp bN .nil pass0 (pa_cons (pe_ix ix_list (pv 2) pe_int (fun _ _ => rfl)) pa_nil))))))) (pss_one ps_never) pss_nil)
      (pss_cons (ps_if (pt_cmpR op_gt (pe_callB call_len_seq (by rfl) ml PySem.boot_len (pa_cons (pv 2) pa_nil)) pe_int (nomark _)) (pss_one ps_never) pss_nil)
      (pss_one (ps_ret (pe_ix ix_list (pv 2) pe_int (fun _ _ => rfl)))))), ?_⟩
    refine ⟨_, rfl, ⟨_, rfl⟩, _, _, rfl, rfl, rfl, room, fun L nL => ?_⟩
    rw [ask_cut ha]
    have eL : (upd H L (.lst ([("asker" : Str), a].map V.str))) L = some (.lst ([("asker" : Str), a].map V.str)) := upd_same
    have s0 := same_new (o := .lst ([("asker" : Str), a].map V.str)) nL
    generalize upd H L (.lst ([("asker" : Str), a].map V.str)) = H1 at eL s0 ⊢
    refine ⟨.ref L, rfl, L, _, rfl, .inl (.inl (.inl eL)), _, _, rfl, rfl, _, rfl, iteF ?_⟩
    refine ⟨.ref L, rfl, L, _, 1, .str a, rfl, rfl, .inl (.inl eL), atI_nat (j := 1) rfl, a, rfl, ha, _, rfl, iteF ?_⟩
    refine ⟨.ref L, rfl, L, _, rfl, .inl (.inl (.inl eL)), _, _, rfl, rfl, _, rfl, iteF ?_⟩
    exact ⟨.ref L, rfl, L, _, 1, .str a, rfl, rfl, .inl (.inl eL), atI_nat (j := 1) rfl, q H1 s0⟩
theorem ok_wr {g gA gK : Addr} {fd fdA fdK : FuncData} {mv : List Value} (F : Fun K "web_read" "web_read" (topS 18) g fd)
    (A' : Fun K "asker_read" "asker_read" (topS 17) gA fdA) (bA : Binds K fdA ["text", "line"] []) (mA : mg "asker_read" = some (.ref gA)) (GA : FnOk P w K mg base CX0 2 gA fdA ["text", "line"] spAr)
    (kpK : PySem.W.keepIn K (.ref gK) = true) (mK : mg "kind_read" = some (.ref gK)) (GK : FnOk P w K mg base CX0 4 gK fdK ["text", "line", "field"] (spKr K))
    (bK : KBn K fdK ["text", "line", "field"] 1 ["line"] (fun us ws => us ++ (ws ++ mv)) (fun vs zs => vs ++ (zs ++ [V.int 0])))
    (me : mg "enumerate" = none) (ml : mg "len" = none) (mt : mg "tuple" = none) : FnOk P w K mg base CX0 5 g fd ["text"] (spWr K) := by
  refine F.ok scWr (fun vs H Q E h => ?_) (fun cdv A outer s H vs Q E hr h => ?_)
  · obtain ⟨g, rfl, _⟩ := h
    rfl
  · obtain ⟨g, rfl, ok, nice, ha, q⟩ := h
    have hr2 : Room 2 _ := hr.mono (by decide)
    obtain ⟨o1, o2, o3⟩ := id ok
    refine ⟨_, pss_cons (ps_set (i := 1) scWr.nd rfl (.inl rfl) (pe_split (pv 0) pe_str))
      (pss_cons (ps_set (i := 2) scWr.nd rfl (.inl rfl) (pe_lst pa_nil))
      (pss_cons (ps_for PassesOwn.never rfl (pi_enum (by rfl) me (pa_cons (pv 1) pa_nil)) (pg_tup (by rfl) (pgs_cons (pg_name (i := 3) scWr.nd rfl (.inl rfl)) (pgs_cons (pg_name (i := 4) scWr.nd rfl (.inl rfl)) pgs_nil)))
        (pss_cons (ps_if (pt_cmpR op_eq (pe_ix ix_list (pe_split (pv 4) pe_str) pe_int (fun _ _ => rfl)) pe_str (nomark _))
          (pss_cons (ps_set (i := 5) scWr.nd rfl (.inl rfl) (pe_call GA hr2 (by rfl) mA A'.kp bA .nil pass0 (pa_cons (pv 4) (pa_cons (pv 3) pa_nil))))
          (pss_cons (ps_if (pt_cmpR op_lt (pe_op op_add (pv 3) pe_int) (pe_callB call_len_seq (by rfl) ml PySem.boot_len (pa_cons (pv 1) pa_nil)) (nomark _)) (pss_one ps_never) pss_nil)
          (pss_one (ps_ret (pe_tup (pa_cons (pe_callTy call_tuple_of (by rfl) mt boot_tuple (pa_cons (pv 2) pa_nil)) (pa_cons (pv 5) pa_nil))))))) pss_nil)
        (pss_one (ps_expr (pe_bm PySem.F.plainAttrs_list PySem.F.slot_list_append PySem.F.type_list_append mt_append (pv 2) (pa_cons (pe_callN GK hr (by rfl) mK kpK bK pass0 (pa_cons (pv 4) pa_nil) (pk_cons (pv 3) pk_nil)) pa_nil))))))
      (pss_one ps_never))), ?_⟩
    refine ⟨_, rfl, ⟨_, rfl⟩, _, _, rfl, rfl, rfl, Nat.le_trans (Nat.add_le_add_right (pageT_fit ok).1 2) (by decide), fun L nL => ?_⟩
    rw [page_cut ok nice ha]
    have eL : (upd H L (.lst ((linesT g).map V.str))) L = some (.lst ((linesT g).map V.str)) := upd_same
    have s0 := same_new (o := .lst ((linesT g).map V.str)) nL
    generalize upd H L (.lst ((linesT g).map V.str)) = H1 at eL s0 ⊢
    refine ⟨Nat.zero_le _, fun M nM => ?_⟩
    have eM : (upd H1 M (.lst [])) M = some (.lst []) := upd_same
    have s1 := same_new (o := .lst []) nM
    have nML : L ≠ M := ne_of_none eL nM
    have n0M : H M = none := s0.free nM
    have eL1 := s1 _ _ eL
    have s01 := s0.trans s1
    generalize upd H1 M (.lst []) = H2 at eM s1 eL1 s01 ⊢
    have ll : (linesT g).length = g.es.length + 1 := by simp [linesT]
    refine ⟨.ref L, rfl, L, _, rfl, .inl (.inl eL1), for_it walk_enum (fun i σ G => i ≤ g.es.length ∧ ∃ y3 y4 y5 ws, σ = [some (.str (pageT g)), some (.ref L), some (.ref M), y3, y4, y5] ∧ Same H G ∧ G L = some (.lst ((linesT g).map V.str)) ∧ G M = some (.lst ws) ∧ EntsAt K G ws (g.es.take i))
      ⟨Nat.zero_le _, none, none, none, [], rfl, s01, eL1, eM, .nil⟩ (fun i σ G _ ⟨_, _, _, _, _, _, _, h, _⟩ => .inl (.inl h)) ?_ ?_⟩
    · rintro i x σ G G' hi ⟨hi', y3, y4, y5, ws, rfl, sG, eLG, eMG, hE⟩ ⟨T, k, v, rfl, nT, rfl, hk, hv⟩
      obtain rfl : V.int (i : Nat) = k := Option.some.inj hk
      obtain ⟨z, hz, rfl⟩ := map_get hv
      have sT := same_new (o := .tup [V.int (i : Nat), V.str z]) nT
      have sN := sG.trans sT
      refine ⟨T, _, rfl, .inl (.inl upd_same), rfl, _, _, rfl, _, _, rfl, rfl, ?_⟩
      by_cases last : i = g.es.length
      · -- the asker's line
        have ez : z = ("asker " : Str) ++ g.asks := by
          have e : (linesT g)[i]? = some (("asker " : Str) ++ g.asks) := by
            unfold linesT
            rw [List.getElem?_append_right (by rw [List.length_map]; omega), List.length_map, last, Nat.sub_self]
            rfl
          exact Option.some.inj (hz.symm.trans e)
        subst ez
        refine ⟨_, rfl, ⟨_, rfl⟩, _, _, rfl, rfl, rfl, Nat.le_trans (Nat.add_le_add_right (askT_fit ok).1 2) (by decide), fun S nS => ?_⟩
        rw [ask_cut ha]
        refine ⟨S, _, 0, .str ("asker" : Str), rfl, rfl, .inl (.inl upd_same), atI_nat (j := 0) rfl, rfl, _, rfl, ?_⟩
        rw [decide_eq_true rfl]
        refine iteT ?_
        have sS := sN.trans (same_new (o := .lst ([("asker" : Str), g.asks].map V.str)) nS)
        have eL2 := same_new (o := .lst ([("asker" : Str), g.asks].map V.str)) nS _ _ (sT _ _ eLG)
        have eM2 := same_new (o := .lst ([("asker" : Str), g.asks].map V.str)) nS _ _ (sT _ _ eMG)
        have hE2 := (hE.same sT).same (same_new (o := .lst ([("asker" : Str), g.asks].map V.str)) nS)
        refine ⟨_, rfl, _, rfl, g.asks, _, rfl, ha, o3.1, fun G3 s3 => ?_⟩
        refine ⟨_, rfl, (i : Nat), 1, rfl, rfl, .ref L, rfl, L, _, rfl, .inl (.inl (.inl (s3 _ _ eL2))), _, _, rfl, rfl, _, rfl, ?_⟩
        have no : decide (((i : Nat) : Int) + 1 < (((linesT g).map V.str).length : Int)) = false := decide_eq_false (by rw [List.length_map, ll]; omega)
        rw [no]
        refine iteF ⟨.ref M, rfl, M, ws, rfl, .inl ⟨.inl (.inl (s3 _ _ eM2)), fun te nte => ⟨_, rfl, (show 2 ≤ sizeLine by decide), fun tp ntp => ?_⟩⟩⟩
        have sE := same_new (o := .tup ws) nte
        have sP := same_new (o := .tup [V.ref te, V.str g.asks]) ntp
        have et : g.es.take i = g.es := by rw [last, List.take_length]
        rw [et] at hE2
        exact q (.ref tp) _ (((sS.trans s3).trans sE).trans sP) ⟨tp, te, ws, rfl, .inl (.inl upd_same), .inl (.inl (sP _ _ upd_same)), hE2.same ((s3.trans sE).trans sP)⟩
      · -- a kind's line
        have hlt : i < g.es.length := by omega
        have hge : g.es[i]? = some g.es[i] := List.getElem?_eq_getElem hlt
        have ez : z = lineT g.es[i] := by
          have e : (linesT g)[i]? = some (lineT g.es[i]) := by
            unfold linesT
            rw [List.getElem?_append_left (by rw [List.length_map]; exact hlt), List.getElem?_map, hge]
            rfl
          exact Option.some.inj (hz.symm.trans e)
        have hm : g.es[i] ∈ g.es := List.getElem_mem hlt
        have he := o2 _ hm
        have hn := nice _ hm
        generalize g.es[i] = e at hge ez he hn
        subst ez
        refine ⟨_, rfl, ⟨_, rfl⟩, _, _, rfl, rfl, rfl, Nat.le_trans (Nat.add_le_add_right (lineT_fit he).1 2) (by decide), fun S nS => ?_⟩
        rw [line_cut he hn]
        refine ⟨S, _, 0, .str ("kind" : Str), rfl, rfl, .inl (.inl upd_same), atI_nat (j := 0) rfl, rfl, _, rfl, ?_⟩
        have no : decide (V.str ("kind" : Str) = V.str ("asker" : Str)) = false := by decide +kernel
        rw [no]
        refine iteF ?_
        have sS := sN.trans (same_new (o := .lst ((parts e).map V.str)) nS)
        have eL2 := same_new (o := .lst ((parts e).map V.str)) nS _ _ (sT _ _ eLG)
        have eM2 := same_new (o := .lst ((parts e).map V.str)) nS _ _ (sT _ _ eMG)
        have hE2 := (hE.same sT).same (same_new (o := .lst ((parts e).map V.str)) nS)
        refine ⟨.ref M, rfl, .inl ⟨rfl, _, .inl (.inl eM2)⟩, _, rfl, _, rfl, rfl, rfl, e, .int (i : Nat), .int 0, rfl, he, hn, fun v G3 s3 hv3 => ?_⟩
        have eM3 := s3 _ _ eM2
        refine ⟨M, ws, v, rfl, rfl, eM3, by rw [hE.len, List.length_take]; exact small' (by omega), ?_⟩
        refine ⟨by omega, _, _, _, ws ++ [v], rfl, ?_, ?_, upd_same, ?_⟩
        · exact putS (sS.trans s3) n0M
        · rw [upd_ne nML]
          exact s3 _ _ eL2
        · rw [List.take_add_one, hge]
          exact ((hE2.same s3).append (.cons hv3 .nil)).ts (ts_lst eM3)
    · rintro σ G ⟨hi, _⟩
      rw [List.length_map, ll] at hi
      omega
end
end Kn


namespace Kn
open PySem PySem.Spec PyProof.Rows L2
/-! ### data that can be shown -/
structure Sh (k B : Nat) (d : PyData) : Prop where
  ok : d.showable = true
  nd : d.hasDict = false
  dp : d.depth ≤ k
  ln : d.shown.length ≤ B
theorem Sh.mono {k B k' B' : Nat} {d : PyData} (h : Sh k B d) (a : k ≤ k') (b : B ≤ B') : Sh k' B' d := ⟨h.ok, h.nd, Nat.le_trans h.dp a, Nat.le_trans h.ln b⟩
theorem sh_str {n : Nat} {x : Str} (h : Fit n x) : Sh 0 (10 * n + 2) (.str x) := by
  refine ⟨rfl, rfl, Nat.le_refl _, ?_⟩
  show (reprText x).length ≤ _
  have := StrLaws.reprText_len x h.2
  have := h.1
  omega
theorem sh_int {i : Int} (h : i.natAbs < 10 ^ 60) : Sh 0 61 (.int i) := ⟨by show decide _ = true; exact decide_eq_true (fee_log h), rfl, Nat.le_refl _, (feeT_fit h).1⟩
theorem sh_bool (b : Bool) : Sh 0 5 (.bool b) := by
  refine ⟨rfl, rfl, Nat.le_refl _, ?_⟩
  cases b <;> decide +kernel
theorem shownAll_len {k B : Nat} : ∀ ds : List PyData, (∀ d ∈ ds, Sh k B d) → PyData.showableAll ds = true ∧ PyData.hasDictAll ds = false ∧ PyData.depthAll ds ≤ k ∧ ((PyData.shownAll ds).map (·.length)).sum ≤ ds.length * B ∧ (PyData.shownAll ds).length = ds.length
  | [], _ => ⟨rfl, rfl, Nat.zero_le _, Nat.zero_le _, rfl⟩
  | d :: r, h => by
    obtain ⟨a1, a2, a3, a4, a5⟩ := shownAll_len r fun x hx => h x (List.mem_cons_of_mem _ hx)
    have q := h d (List.mem_cons_self ..)
    refine ⟨?_, ?_, ?_, ?_, ?_⟩
    · show (d.showable && PyData.showableAll r) = true
      rw [q.ok, a1]
      rfl
    · show (d.hasDict || PyData.hasDictAll r) = false
      rw [q.nd, a2]
      rfl
    · show max d.depth (PyData.depthAll r) ≤ k
      have := q.dp
      omega
    · show ((d.shown :: PyData.shownAll r).map (·.length)).sum ≤ (r.length + 1) * B
      rw [List.map_cons, List.sum_cons, Nat.add_mul]
      have := q.ln
      omega
    · show (d.shown :: PyData.shownAll r).length = r.length + 1
      rw [List.length_cons, a5]
theorem sh_list {k B n : Nat} {ds : List PyData} (h : ∀ d ∈ ds, Sh k B d) (hn : ds.length ≤ n) : Sh (k + 1) (n * (B + 2) + 3) (.list ds) := by
  obtain ⟨a1, a2, a3, a4, a5⟩ := shownAll_len ds h
  refine ⟨a1, a2, Nat.succ_le_succ a3, ?_⟩
  show (listText (PyData.shownAll ds)).length ≤ _
  have q := listText_len_le (PyData.shownAll ds)
  rw [a5] at q
  have m : ds.length * (B + 2) ≤ n * (B + 2) := Nat.mul_le_mul_right _ hn
  rw [Nat.mul_add] at m
  omega
theorem sh_tup {k B n : Nat} {ds : List PyData} (h : ∀ d ∈ ds, Sh k B d) (hn : ds.length ≤ n) : Sh (k + 1) (n * (B + 2) + 3) (.tuple ds) := by
  obtain ⟨a1, a2, a3, a4, a5⟩ := shownAll_len ds h
  refine ⟨a1, a2, Nat.succ_le_succ a3, ?_⟩
  show (tupleText (PyData.shownAll ds)).length ≤ _
  have q := tupleText_len_le (PyData.shownAll ds)
  rw [a5] at q
  have m : ds.length * (B + 2) ≤ n * (B + 2) := Nat.mul_le_mul_right _ hn
  rw [Nat.mul_add] at m
  omega
def dEnt (e : Ent) : PyData := .tuple [.str e.name, .int e.fee, .bool e.has, .tuple (e.row.map PyData.str)]
def dPg (g : Pg) : PyData := .tuple [.tuple (g.es.map dEnt), .str g.asks]
theorem dp_strs {K : PySem.W.Frag} {H : Hp} : ∀ ss : List Str, DpAll K H (ss.map V.str) (ss.map PyData.str)
  | [] => .nil
  | s :: r => .cons (.str s) (dp_strs r)
theorem EntAt.dp {K : PySem.W.Frag} {H : Hp} {v : V} {e : Ent} (h : EntAt K H v e) : Dp K H v (dEnt e) := by
  obtain ⟨p, q, rfl, h1, h2⟩ := h
  exact .tup h1 (.cons (.str _) (.cons (.int _) (.cons (.bl _) (.cons (.tup h2 (dp_strs e.row)) .nil))))
theorem EntsAt.dp {K : PySem.W.Frag} {H : Hp} : ∀ {vs : List V} {es : List Ent}, EntsAt K H vs es → DpAll K H vs (es.map dEnt)
  | _, _, .nil => .nil
  | _, _, .cons a b => .cons a.dp (EntsAt.dp b)
theorem PgAt.dp {K : PySem.W.Frag} {H : Hp} {v : V} {g : Pg} (h : PgAt K H v g) : Dp K H v (dPg g) := by
  obtain ⟨p, q, vs, rfl, h1, h2, h3⟩ := h
  exact .tup h1 (.cons (.tup h2 h3.dp) (.cons (.str _) .nil))
theorem sh_ent {e : Ent} (h : e.ok) : Sh 2 3000 (dEnt e) := by
  obtain ⟨h1, h2, h3, h4⟩ := h
  refine (sh_tup (k := 1) (B := 675) (n := 4) ?_ (by simp)).mono (by decide) (by decide)
  intro d hd
  simp only [List.mem_cons, List.not_mem_nil, or_false] at hd
  rcases hd with rfl | rfl | rfl | rfl
  · exact (sh_str h1).mono (by decide) (by decide)
  · exact (sh_int h2).mono (by decide) (by decide)
  · exact (sh_bool _).mono (by decide) (by decide)
  · refine (sh_tup (k := 0) (B := 82) (n := 8) ?_ (by rw [List.length_map]; exact h3)).mono (by decide) (by decide)
    intro d hd
    obtain ⟨s, hs, rfl⟩ := List.mem_map.mp hd
    exact sh_str (h4 s hs)
theorem sh_pg {g : Pg} (h : g.ok) : Sh 4 100000 (dPg g) := by
  obtain ⟨h1, h2, h3⟩ := h
  refine (sh_tup (k := 3) (B := 40000) (n := 2) ?_ (by simp)).mono (by decide) (by decide)
  intro d hd
  simp only [List.mem_cons, List.not_mem_nil, or_false] at hd
  rcases hd with rfl | rfl
  · refine (sh_tup (k := 2) (B := 3000) (n := 12) ?_ (by rw [List.length_map]; exact h1)).mono (by decide) (by decide)
    intro d hd
    obtain ⟨e, he, rfl⟩ := List.mem_map.mp hd
    exact sh_ent (h2 e he)
  · exact (sh_str h3).mono (by decide) (by decide)

/-! ### same, is_right -/
abbrev nSame : List Str := ["_law_told", "_law_due"]
theorem scSame : FnScope nSame ["_law_told", "_law_due"] (defScope (topS 33)) := ⟨rfl, rfl, rfl, by decide +kernel, rfl, by decide +kernel, by decide +kernel⟩
def spSame (K : PySem.W.Frag) : Sp := fun vs H Q _ => ∃ (t u : Addr) (d : PyData), vs = [.ref t, .ref u] ∧ Dp K H (.ref t) d ∧ Dp K H (.ref u) d ∧ Sh 20 16777216 d ∧ Q (.bl true) H
section
variable {P : Program} {w : World} {K : PySem.W.Frag} {mg : Str → Option Value} {base : Heap}
theorem ok_same {g : Addr} {fd : FuncData} (F : Fun K "_law_same" "_law_same" (topS 33) g fd) (mp : mg "repr" = none) : Vow P w K mg base 1 g fd ["_law_told", "_law_due"] (spSame K) := by
  refine Vow.body F scSame (fun vs H Q E h => ?_) (fun cdv A outer s H vs Q E hq hr h => ?_)
  · obtain ⟨t, u, d, rfl, _⟩ := h
    rfl
  · obtain ⟨t, u, d, rfl, h1, h2, h3, q⟩ := h
    refine ⟨_, pss_one (ps_ret (pe_cmpR op_eq (pe_callB (call_show hq hr.units) (by rfl) mp boot_repr (pa_cons (pv 0) pa_nil)) (pe_callB (call_show hq hr.units) (by rfl) mp boot_repr (pa_cons (pv 1) pa_nil)) (nomark _))), ?_⟩
    refine ⟨_, rfl, t, d, rfl, h1, h3.ok, h3.nd, h3.dp, Nat.le_trans h3.ln size16, _, rfl, u, d, rfl, h2, h3.ok, h3.nd, h3.dp, Nat.le_trans h3.ln size16, rfl, ?_⟩
    rw [decide_eq_true rfl]
    exact q
end
end Kn


namespace Kn
open PySem PySem.Spec PyProof.Rows L2
structure Def (K : PySem.W.Frag) (mg : Str → Option Value) (x : Str) (i : Nat) (ps : List Str) (f : Addr) (fd : FuncData) : Prop where
  F : Fun K x x (topS i) f fd
  b : Binds K fd ps []
  m : mg x = some (.ref f)
/-- a reader with line and field, however it is called -/
structure Rd2 (K : PySem.W.Frag) (mg : Str → Option Value) (x : Str) (f : Addr) (fd : FuncData) where
  kp : PySem.W.keepIn K (.ref f) = true
  m : mg x = some (.ref f)
  ds : List Value
  rd : Vals [V.int 0, V.int 0] ds
  b : Binds K fd ["text", "line", "field"] ds
  mv : List Value
  b2 : KBn K fd ["text", "line", "field"] 1 ["line", "field"] (fun us ws => us ++ (ws ++ mv)) (fun vs zs => vs ++ (zs ++ []))
abbrev nEr : List Str := ["_law_entry", "_law_string", "_law_told"]
theorem scEr : FnScope nEr ["_law_entry"] (defScope (topS 36)) := ⟨rfl, rfl, rfl, by decide +kernel, rfl, by decide +kernel, by decide +kernel⟩
abbrev nPr : List Str := ["_law_page_here", "_law_string", "_law_told"]
theorem scPr : FnScope nPr ["_law_page_here"] (defScope (topS 37)) := ⟨rfl, rfl, rfl, by decide +kernel, rfl, by decide +kernel, by decide +kernel⟩
abbrev nCr : List Str := ["_law_counts", "_law_string", "_law_told"]
theorem scCr : FnScope nCr ["_law_counts"] (defScope (topS 38)) := ⟨rfl, rfl, rfl, by decide +kernel, rfl, by decide +kernel, by decide +kernel⟩
def spEr (K : PySem.W.Frag) : Sp := fun vs H Q _ => ∃ (v : V) (e : Ent), vs = [v] ∧ EntAt K H v e ∧ e.ok ∧ e.nice ∧ ∀ H', Same H H' → Q (.bl true) H'
def spPr (K : PySem.W.Frag) : Sp := fun vs H Q _ => ∃ (v : V) (g : Pg), vs = [v] ∧ PgAt K H v g ∧ g.ok ∧ (∀ e ∈ g.es, e.nice) ∧ g.asks ∈ nm ∧ ∀ H', Same H H' → Q (.bl true) H'
def spCr (K : PySem.W.Frag) : Sp := fun vs H Q _ => ∃ (p : Addr) (t : List Int), vs = [.ref p] ∧ SqT K H p (t.map V.int) ∧ t ≠ [] ∧ t.length ≤ 8 ∧ (∀ i ∈ t, i ∈ feesAll) ∧ ∀ H', Same H H' → Q (.bl true) H'
theorem numT_fit {t : List Int} (l : t.length ≤ 8) (h : ∀ i ∈ t, i ∈ feesAll) : Fit 600 (numT t) := by
  refine (Fit.join (n := 61) (m := 1) (fit_of "," (by decide)) _ ?_).mono ?_
  · intro x hx
    obtain ⟨i, hi, rfl⟩ := List.mem_map.mp hx
    exact feeT_fit (feesAll_ok i (h i hi))
  · rw [List.length_map]
    omega
def dCts (t : List Int) : PyData := .tuple (t.map PyData.int)
theorem sh_cts {t : List Int} (l : t.length ≤ 8) (h : ∀ i ∈ t, i ∈ feesAll) : Sh 1 600 (dCts t) := by
  refine (sh_tup (k := 0) (B := 61) (n := 8) ?_ (by rw [List.length_map]; exact l)).mono (by decide) (by decide)
  intro d hd
  obtain ⟨i, hi, rfl⟩ := List.mem_map.mp hd
  exact sh_int (feesAll_ok i (h i hi))
theorem dp_cts {K : PySem.W.Frag} {H : Hp} {p : Addr} {t : List Int} (h : SqT K H p (t.map V.int)) : Dp K H (.ref p) (dCts t) := .tup h (dpAll_ints t)
section
variable {P : Program} {w : World} {K : PySem.W.Frag} {mg : Str → Option Value} {base : Heap}
theorem ok_er {g gL gK gR gS : Addr} {fd fL fK fR fS : FuncData} (F : Fun K "_law_is_entry_right" "_law_is_entry_right" (topS 36) g fd)
    (L : Def K mg "_law_entry_line" 31 ["_law_entry"] gL fL) (OL : FnOk P w K mg base CX0 2 gL fL ["_law_entry"] (spLine K))
    (I : Def K mg "kind_text" 21 ["kind"] gK fK) (OI : FnOk P w K mg base CX0 2 gK fK ["kind"] (spKind K))
    (R : Rd2 K mg "kind_read" gR fR) (OR : FnOk P w K mg base CX0 4 gR fR ["text", "line", "field"] (spKr K))
    (S : Def K mg "_law_same" 33 ["_law_told", "_law_due"] gS fS) (OS : Vow P w K mg base 1 gS fS ["_law_told", "_law_due"] (spSame K)) : Vow P w K mg base 5 g fd ["_law_entry"] (spEr K) := by
  refine Vow.body F scEr (fun vs H Q E h => ?_) (fun cdv A outer s H vs Q E hq hr h => ?_)
  · obtain ⟨v, e, rfl, _⟩ := h
    rfl
  · obtain ⟨v, e, rfl, hv, ok, nice, q⟩ := h
    have hr1 : Room 1 _ := hr.mono (by decide)
    have hr2 : Room 2 _ := hr.mono (by decide)
    refine ⟨_, pss_cons (ps_set (i := 1) scEr.nd rfl (.inl rfl) (pe_call OL hr2 (by rfl) L.m L.F.kp L.b .nil pass0 (pa_cons (pv 0) pa_nil)))
      (pss_cons (ps_set (i := 2) scEr.nd rfl (.inl rfl) (pe_lst (pa_cons (pe_call OR hr (by rfl) R.m R.kp R.b R.rd pass0 (pa_cons (pe_call OI hr2 (by rfl) I.m I.F.kp I.b .nil pass0 (pa_cons (pv 0) pa_nil)) pa_nil))
        (pa_cons (pe_call OI hr2 (by rfl) I.m I.F.kp I.b .nil pass0 (pa_cons (pe_call OR hr (by rfl) R.m R.kp R.b R.rd pass0 (pa_cons (pv 1) pa_nil)) pa_nil)) pa_nil))))
      (pss_cons (ps_expr (pe_bm PySem.F.plainAttrs_list PySem.F.slot_list_append PySem.F.type_list_append mt_append (pv 2) (pa_cons (pe_callN OR hr (by rfl) R.m R.kp R.b2 pass0 (pa_cons (pe_call OI hr2 (by rfl) I.m I.F.kp I.b .nil pass0 (pa_cons (pe_call OR hr (by rfl) R.m R.kp R.b R.rd pass0 (pa_cons (pv 1) pa_nil)) pa_nil)) pa_nil) (pk_cons pe_int (pk_cons pe_int pk_nil))) pa_nil)))
      (pss_one (ps_ret (pe_vow OS hq hr1 (by rfl) S.m S.F.kp S.b (pa_cons (pv 2) (pa_cons (pe_lst (pa_cons (pv 0) (pa_cons (pv 1) (pa_cons (pv 0) pa_nil)))) pa_nil))))))), ?_⟩
    refine ⟨_, rfl, v, e, rfl, hv, ok, fun H1 s1 => ?_⟩
    have hv1 := hv.same s1
    -- told
    refine ⟨_, rfl, v, e, rfl, hv1, ok, e, _, _, rfl, ok, nice, fun v2 H2 s2 hv2 => ?_⟩
    refine ⟨_, rfl, e, _, _, rfl, ok, nice, fun v3 H3 s3 hv3 => ⟨v3, e, rfl, hv3, ok, (show 2 ≤ sizeLine by decide), fun T nT => ?_⟩⟩
    have sT := same_new (o := .lst [v2, .str (lineT e)]) nT
    have eT : (upd H3 T (.lst [v2, .str (lineT e)])) T = some (.lst [v2, .str (lineT e)]) := upd_same
    have hv2T := (hv2.same s3).same sT
    have s4 := (((s1.trans s2).trans s3).trans sT)
    have n0T : H T = none := ((s1.trans s2).trans s3).free nT
    have hvT := ((hv1.same s2).same s3).same sT
    generalize upd H3 T (.lst [v2, .str (lineT e)]) = H4 at eT hv2T s4 hvT ⊢
    -- told.append
    refine ⟨.ref T, rfl, .inl ⟨rfl, _, .inl (.inl eT)⟩, ?_⟩
    refine ⟨_, rfl, e, _, _, rfl, ok, nice, fun v5 H5 s5 hv5 => ⟨v5, e, rfl, hv5, ok, rfl, rfl, e, .int 3, .int 2, rfl, ok, nice, fun v6 H6 s6 hv6 => ?_⟩⟩
    have eT6 := s6 _ _ (s5 _ _ eT)
    refine ⟨T, _, v6, rfl, rfl, eT6, (show 2 < sizeLine by decide), ?_⟩
    have ts6 : TS H4 (upd H6 T (.lst ([v2, .str (lineT e)] ++ [v6]))) := (ts_same (s5.trans s6)).trans (ts_lst eT6)
    have eT7 : (upd H6 T (.lst ([v2, .str (lineT e)] ++ [v6]))) T = some (.lst [v2, .str (lineT e), v6]) := upd_same
    have hv27 := hv2T.ts ts6
    have hv7 := hvT.ts ts6
    have hv67 := hv6.ts (ts_lst (o := .lst ([v2, .str (lineT e)] ++ [v6])) eT6)
    have s7 : Same H (upd H6 T (.lst ([v2, .str (lineT e)] ++ [v6]))) := putS ((s4.trans s5).trans s6) n0T
    generalize upd H6 T (.lst ([v2, .str (lineT e)] ++ [v6])) = H7 at eT7 hv27 hv7 hv67 s7 ⊢
    -- same
    refine ⟨.ref T, rfl, v, rfl, _, rfl, v, rfl, (show 3 ≤ sizeLine by decide), fun D nD => ?_⟩
    have sD := same_new (o := .lst [v, .str (lineT e), v]) nD
    refine ⟨T, D, .list [dEnt e, .str (lineT e), dEnt e], rfl, .lst (.inl (.inl (sD _ _ eT7))) ?_, .lst (.inl (.inl upd_same)) ?_, ?_, q _ (s7.trans sD)⟩
    · exact .cons (hv27.same sD).dp (.cons (.str _) (.cons (hv67.same sD).dp .nil))
    · exact .cons (hv7.same sD).dp (.cons (.str _) (.cons (hv7.same sD).dp .nil))
    · refine (sh_list (k := 2) (B := 10000) (n := 3) ?_ (by simp)).mono (by decide) (by decide)
      intro d hd
      simp only [List.mem_cons, List.not_mem_nil, or_false] at hd
      rcases hd with rfl | rfl | rfl
      · exact (sh_ent ok).mono (by decide) (by decide)
      · exact (sh_str (lineT_fit ok)).mono (by decide) (by decide)
      · exact (sh_ent ok).mono (by decide) (by decide)
theorem ok_pr {g gL gK gR gS : Addr} {fd fL fK fR fS : FuncData} (F : Fun K "_law_is_page_right" "_law_is_page_right" (topS 37) g fd)
    (L : Def K mg "_law_page_text" 32 ["_law_page_here"] gL fL) (OL : FnOk P w K mg base CX0 3 gL fL ["_law_page_here"] (spWeb K))
    (I : Def K mg "web_text" 22 ["web"] gK fK) (OI : FnOk P w K mg base CX0 3 gK fK ["web"] (spWeb K))
    (R : Def K mg "web_read" 18 ["text"] gR fR) (OR : FnOk P w K mg base CX0 5 gR fR ["text"] (spWr K))
    (S : Def K mg "_law_same" 33 ["_law_told", "_law_due"] gS fS) (OS : Vow P w K mg base 1 gS fS ["_law_told", "_law_due"] (spSame K)) : Vow P w K mg base 6 g fd ["_law_page_here"] (spPr K) := by
  refine Vow.body F scPr (fun vs H Q E h => ?_) (fun cdv A outer s H vs Q E hq hr h => ?_)
  · obtain ⟨v, e, rfl, _⟩ := h
    rfl
  · obtain ⟨v, e, rfl, hv, ok, nice, ha, q⟩ := h
    have hr1 : Room 1 _ := hr.mono (by decide)
    have hr2 : Room 3 _ := hr.mono (by decide)
    refine ⟨_, pss_cons (ps_set (i := 1) scPr.nd rfl (.inl rfl) (pe_call OL hr2 (by rfl) L.m L.F.kp L.b .nil pass0 (pa_cons (pv 0) pa_nil)))
      (pss_cons (ps_set (i := 2) scPr.nd rfl (.inl rfl) (pe_lst (pa_cons (pe_call OR hr (by rfl) R.m R.F.kp R.b .nil pass0 (pa_cons (pe_call OI hr2 (by rfl) I.m I.F.kp I.b .nil pass0 (pa_cons (pv 0) pa_nil)) pa_nil))
        (pa_cons (pe_call OI hr2 (by rfl) I.m I.F.kp I.b .nil pass0 (pa_cons (pe_call OR hr (by rfl) R.m R.F.kp R.b .nil pass0 (pa_cons (pv 1) pa_nil)) pa_nil))
        (pa_cons (pe_call OR hr (by rfl) R.m R.F.kp R.b .nil pass0 (pa_cons (pe_call OI hr2 (by rfl) I.m I.F.kp I.b .nil pass0 (pa_cons (pe_call OR hr (by rfl) R.m R.F.kp R.b .nil pass0 (pa_cons (pv 1) pa_nil)) pa_nil)) pa_nil)) pa_nil)))))
      (pss_one (ps_ret (pe_vow OS hq hr1 (by rfl) S.m S.F.kp S.b (pa_cons (pv 2) (pa_cons (pe_lst (pa_cons (pv 0) (pa_cons (pv 1) (pa_cons (pv 0) pa_nil)))) pa_nil)))))), ?_⟩
    refine ⟨_, rfl, v, e, rfl, hv, ok, fun H1 s1 => ?_⟩
    have hv1 := hv.same s1
    refine ⟨_, rfl, v, e, rfl, hv1, ok, fun H2 s2 => ⟨e, rfl, ok, nice, ha, fun v3 H3 s3 hv3 => ?_⟩⟩
    refine ⟨_, rfl, e, rfl, ok, nice, ha, fun v4 H4 s4 hv4 => ⟨v4, e, rfl, hv4, ok, fun H5 s5 => ?_⟩⟩
    refine ⟨_, rfl, e, rfl, ok, nice, ha, fun v6 H6 s6 hv6 => ⟨v6, e, rfl, hv6, ok, fun H7 s7 => ⟨e, rfl, ok, nice, ha, fun v8 H8 s8 hv8 => ⟨(show 3 ≤ sizeLine by decide), fun T nT => ?_⟩⟩⟩⟩
    have s38 := (((s4.trans s5).trans s6).trans s7).trans s8
    have sT := same_new (o := .lst [v3, .str (pageT e), v8]) nT
    refine ⟨.ref T, rfl, v, rfl, _, rfl, v, rfl, (show 3 ≤ sizeLine by decide), fun D nD => ?_⟩
    have sD := same_new (o := .lst [v, .str (pageT e), v]) nD
    refine ⟨T, D, .list [dPg e, .str (pageT e), dPg e], rfl, .lst (.inl (.inl (sD _ _ upd_same))) ?_, .lst (.inl (.inl upd_same)) ?_, ?_, q _ (((((s1.trans s2).trans s3).trans s38).trans sT).trans sD)⟩
    · exact .cons (((hv3.same s38).same sT).same sD).dp (.cons (.str _) (.cons ((hv8.same sT).same sD).dp .nil))
    · have hvD := (((((hv1.same s2).same s3).same s38).same sT).same sD)
      exact .cons hvD.dp (.cons (.str _) (.cons hvD.dp .nil))
    · refine (sh_list (k := 4) (B := 200000) (n := 3) ?_ (by simp)).mono (by decide) (by decide)
      intro d hd
      simp only [List.mem_cons, List.not_mem_nil, or_false] at hd
      rcases hd with rfl | rfl | rfl
      · exact (sh_pg ok).mono (by decide) (by decide)
      · exact (sh_str (pageT_fit ok)).mono (by decide) (by decide)
      · exact (sh_pg ok).mono (by decide) (by decide)
theorem ok_cr {g gL gK gR gS : Addr} {fd fL fK fR fS : FuncData} (F : Fun K "_law_are_counts_right" "_law_are_counts_right" (topS 38) g fd)
    (L : Def K mg "_law_joined" 30 ["_law_some"] gL fL) (OL : FnOk P w K mg base CX0 1 gL fL ["_law_some"] (spJoin K))
    (I : Def K mg "numbers_text" 23 ["numbers"] gK fK) (OI : FnOk P w K mg base CX0 1 gK fK ["numbers"] (spNum K))
    (R : Rd2 K mg "numbers_read" gR fR) (OR : FnOk P w K mg base CX0 3 gR fR ["text", "line", "field"] (spNr K))
    (S : Def K mg "_law_same" 33 ["_law_told", "_law_due"] gS fS) (OS : Vow P w K mg base 1 gS fS ["_law_told", "_law_due"] (spSame K)) : Vow P w K mg base 4 g fd ["_law_counts"] (spCr K) := by
  refine Vow.body F scCr (fun vs H Q E h => ?_) (fun cdv A outer s H vs Q E hq hr h => ?_)
  · obtain ⟨v, e, rfl, _⟩ := h
    rfl
  · obtain ⟨p, t, rfl, hv, ne, l8, ht, q⟩ := h
    have hr1 : Room 1 _ := hr.mono (by decide)
    have kb : ∀ i ∈ t, i.natAbs < 10 ^ 60 := fun i hi => feesAll_ok i (ht i hi)
    refine ⟨_, pss_cons (ps_set (i := 1) scCr.nd rfl (.inl rfl) (pe_call OL hr1 (by rfl) L.m L.F.kp L.b .nil pass0 (pa_cons (pv 0) pa_nil)))
      (pss_cons (ps_set (i := 2) scCr.nd rfl (.inl rfl) (pe_lst (pa_cons (pe_call OR hr (by rfl) R.m R.kp R.b R.rd pass0 (pa_cons (pe_call OI hr1 (by rfl) I.m I.F.kp I.b .nil pass0 (pa_cons (pv 0) pa_nil)) pa_nil))
        (pa_cons (pe_call OI hr1 (by rfl) I.m I.F.kp I.b .nil pass0 (pa_cons (pe_call OR hr (by rfl) R.m R.kp R.b R.rd pass0 (pa_cons (pv 1) pa_nil)) pa_nil)) pa_nil))))
      (pss_cons (ps_expr (pe_bm PySem.F.plainAttrs_list PySem.F.slot_list_append PySem.F.type_list_append mt_append (pv 2) (pa_cons (pe_callN OR hr (by rfl) R.m R.kp R.b2 pass0 (pa_cons (pv 1) pa_nil) (pk_cons pe_int (pk_cons pe_int pk_nil))) pa_nil)))
      (pss_one (ps_ret (pe_vow OS hq hr1 (by rfl) S.m S.F.kp S.b (pa_cons (pv 2) (pa_cons (pe_lst (pa_cons (pv 0) (pa_cons (pv 1) (pa_cons (pv 0) pa_nil)))) pa_nil))))))), ?_⟩
    refine ⟨_, rfl, p, t.map V.int, rfl, hv, by rw [List.length_map]; exact l8, ?_, fun H1 s1 => ?_⟩
    · intro x hx
      obtain ⟨i, hi, rfl⟩ := List.mem_map.mp hx
      exact short_int (kb i hi)
    rw [joinT_int ne]
    have hv1 := tupS s1 hv
    refine ⟨_, rfl, p, t, rfl, hv1, l8, kb, fun H2 s2 => ⟨t, _, _, rfl, ne, l8, ht, fun p3 H3 s3 hv3 => ?_⟩⟩
    refine ⟨_, rfl, t, _, _, rfl, ne, l8, ht, fun p4 H4 s4 hv4 => ⟨p4, t, rfl, hv4, l8, kb, fun H5 s5 => ⟨(show 2 ≤ sizeLine by decide), fun T nT => ?_⟩⟩⟩
    have sT := same_new (o := .lst [.ref p3, .str (numT t)]) nT
    have eT : (upd H5 T (.lst [.ref p3, .str (numT t)])) T = some (.lst [.ref p3, .str (numT t)]) := upd_same
    have s15 := (((s1.trans s2).trans s3).trans s4).trans s5
    have n0T : H T = none := s15.free nT
    have hv3T := tupS ((s4.trans s5).trans sT) hv3
    have hvT := tupS (s15.trans sT) hv
    have s6 := s15.trans sT
    generalize upd H5 T (.lst [.ref p3, .str (numT t)]) = H6 at eT hv3T hvT s6 ⊢
    refine ⟨.ref T, rfl, .inl ⟨rfl, _, .inl (.inl eT)⟩, ?_⟩
    refine ⟨_, rfl, rfl, rfl, t, .int 2, .int 9, rfl, ne, l8, ht, fun p7 H7 s7 hv7 => ?_⟩
    have eT7 := s7 _ _ eT
    refine ⟨T, _, .ref p7, rfl, rfl, eT7, (show 2 < sizeLine by decide), ?_⟩
    have tsT : TS H7 (upd H7 T (.lst ([.ref p3, .str (numT t)] ++ [.ref p7]))) := ts_lst eT7
    have eT8 : (upd H7 T (.lst ([.ref p3, .str (numT t)] ++ [.ref p7]))) T = some (.lst [.ref p3, .str (numT t), .ref p7]) := upd_same
    have h3 := tupT tsT (tupS s7 hv3T)
    have h0 := tupT tsT (tupS s7 hvT)
    have h7 := tupT tsT hv7
    have s8 : Same H (upd H7 T (.lst ([.ref p3, .str (numT t)] ++ [.ref p7]))) := putS (s6.trans s7) n0T
    generalize upd H7 T (.lst ([.ref p3, .str (numT t)] ++ [.ref p7])) = H8 at eT8 h3 h0 h7 s8 ⊢
    refine ⟨.ref T, rfl, .ref p, rfl, _, rfl, .ref p, rfl, (show 3 ≤ sizeLine by decide), fun D nD => ?_⟩
    have sD := same_new (o := .lst [.ref p, .str (numT t), .ref p]) nD
    refine ⟨T, D, .list [dCts t, .str (numT t), dCts t], rfl, .lst (.inl (.inl (sD _ _ eT8))) ?_, .lst (.inl (.inl upd_same)) ?_, ?_, q _ (s8.trans sD)⟩
    · exact .cons (dp_cts (tupS sD h3)) (.cons (.str _) (.cons (dp_cts (tupS sD h7)) .nil))
    · exact .cons (dp_cts (tupS sD h0)) (.cons (.str _) (.cons (dp_cts (tupS sD h0)) .nil))
    · refine (sh_list (k := 1) (B := 10000) (n := 3) ?_ (by simp)).mono (by decide) (by decide)
      intro d hd
      simp only [List.mem_cons, List.not_mem_nil, or_false] at hd
      rcases hd with rfl | rfl | rfl
      · exact (sh_cts l8 ht).mono (by decide) (by decide)
      · exact (sh_str (numT_fit l8 ht)).mono (by decide) (by decide)
      · exact (sh_cts l8 ht).mono (by decide) (by decide)
end
end Kn


namespace Kn
open PySem PySem.Spec PyProof.Rows L2
/-! ### t[::-1] of a tuple -/
section
variable {prog : Program} {w : World} {A : Around} {E : Value → Shared → Prop} {s : Shared}
theorem places_back (n : Nat) : Builtin.Slice.sliceAdjust none none (-1) (n : Int) = ((n : Int) - 1, -1) := by
  unfold Builtin.Slice.sliceAdjust
  rfl
theorem count_back (n : Nat) : Builtin.Slice.slicePlaces ((n : Int) - 1) (-1) (-1) = n := by
  unfold Builtin.Slice.slicePlaces
  simp
  omega
theorem fm_congr {α β : Type} {f g : α → Option β} : ∀ {l : List α}, (∀ x ∈ l, f x = g x) → l.filterMap f = l.filterMap g
  | [], _ => rfl
  | x :: r, h => by
    rw [List.filterMap_cons, List.filterMap_cons, h x (List.mem_cons_self ..), fm_congr (l := r) fun y hy => h y (List.mem_cons_of_mem _ hy)]
theorem pick_back (xs : Array Value) : ((List.range xs.size).filterMap fun (k : Nat) => xs[((xs.size : Int) - 1 + (k : Int) * -1).toNat]?).toArray = xs.toList.reverse.toArray := by
  have e : (List.range xs.size).filterMap (fun (k : Nat) => xs[((xs.size : Int) - 1 + (k : Int) * -1).toNat]?) = xs.toList.reverse := by
    have h : ∀ k ∈ List.range xs.size, xs[((xs.size : Int) - 1 + (k : Int) * -1).toNat]? = xs.toList.reverse[k]? := by
      intro k hk
      have hk := List.mem_range.mp hk
      have hl : k < xs.toList.length := by rw [Array.length_toList]; exact hk
      rw [List.getElem?_reverse hl, Array.getElem?_toList, Array.length_toList]
      congr 1
      omega
    rw [fm_congr h]
    have n : xs.size = xs.toList.reverse.length := by rw [List.length_reverse, Array.length_toList]
    rw [n]
    generalize xs.toList.reverse = ys
    induction ys with
    | nil => rfl
    | cons y r ih =>
      rw [List.length_cons, List.range_succ_eq_map, List.filterMap_cons, List.filterMap_map]
      show y :: List.filterMap (fun k => r[k]?) (List.range r.length) = y :: r
      rw [ih]
  rw [e]
theorem cut_back {sl : Addr} {vl vu vs : Value} {n : Nat} {R : Int × Int × Nat → Shared → Prop} (hs : s.heap.IsSliceOf sl vl vu vs) (pl : IsPart vl none) (pu : IsPart vu none) (ps : IsPart vs (some (-1)))
    (r : R ((n : Int) - 1, -1, n) s) : wpAny (model prog w) A (Builtin.Slice.sliceApplied (.ref sl) (pure (n : Int))) R E s := by
  obtain ⟨o, ho, _, hd⟩ := id hs
  unfold Builtin.Slice.sliceApplied Builtin.Slice.sliceFields
  refine wpAny_bind (wpAny_bind (wpAny_field ho hd (x := vl) rfl (wpAny_bind (wpAny_field ho hd (x := vu) rfl (wpAny_bind (wpAny_field ho hd (x := vs) rfl (wpAny_pure ?_)))))))
  refine wpAny_bind (HT.slicePart_ ps ?_)
  show wpAny _ _ (if ((-1 : Int) == 0) = true then _ else _) _ _ s
  rw [if_neg (by decide)]
  refine wpAny_bind (HT.slicePart_ pl (wpAny_bind (HT.slicePart_ pu (wpAny_bind (wpAny_pure ?_)))))
  show wpAny _ _ (pure (((n : Int) - 1, (-1 : Int), Builtin.Slice.slicePlaces ((n : Int) - 1) (-1) (-1)))) _ _ s
  rw [count_back]
  exact wpAny_pure r
theorem get_back {t sl : Addr} {its : Array Value} {vl vu vs : Value} {Q : Value → Shared → Prop} (ht : IsTup s.heap t its) (hs : s.heap.IsSliceOf sl vl vu vs) (pl : IsPart vl none) (pu : IsPart vu none) (ps : IsPart vs (some (-1)))
    (q : Q (.ref s.heap.objs.size) { s with heap := s.heap.push { cls := .type "tuple", data := .seq its.toList.reverse.toArray } }) (room : its.size ≤ sizeLine) : wpAny (model prog w) A (getItem (.ref t) (.ref sl)) Q E s := by
  have isSl : s.TypeIs (.ref sl) "slice" := let ⟨os, a, b, _⟩ := hs; ⟨os, a, b⟩
  have fits : sizeOk (.seq its.toList.reverse.toArray) := by
    show its.toList.reverse.toArray.size ≤ sizeLine
    rw [List.size_toArray, List.length_reverse, Array.length_toList]
    exact room
  unfold getItem
  refine wpAny_holding ?_
  refine wpAny_bind (wpAny_sequenceKey ht.typeIs (by decide) ?_)
  refine wpAny_bind (wpAny_callSpecial?_slot ht.typeIs PyProof.Rows.slot_tuple_getitem (wpAny_call_entry PyProof.Rows.slot_tuple_getitem ht.typeIs PyProof.Rows.entry_tuple_getitem ?_ (PyProof.Rows.args_tuple_getitem _ _)))
  show wpAny _ _ (Builtin.Tuple.tupleItemsOf (.ref t) >>= _) _ _ s
  refine wpAny_bind (tupleItemsOf_ ht (wpAny_bind (wpAny_typeOf isSl ?_)))
  rw [if_pos (by decide)]
  refine wpAny_bind (cut_back hs pl pu ps ?_)
  have no : ¬ (((its.size : Int) - 1 == 0 && (-1 : Int) == 1 && its.size == its.size) = true) := by
    rw [show ((-1 : Int) == 1) = false from rfl, Bool.and_false, Bool.false_and]
    exact Bool.false_ne_true
  show wpAny _ _ (if ((its.size : Int) - 1 == 0 && (-1 : Int) == 1 && its.size == its.size) = true then _ else _) _ _ s
  rw [if_neg no, pick_back]
  exact wpAny_bind (m := Builtin.Tuple.tupleExact _) (wpAny_newObj_type (wpAny_pure ⟨_, rfl, wpAny_pure q⟩) fits)
end

section
variable {X : Cx} {e : Expr} {te : TE} {k : Nat} {p1 p2 p3 pos : Pos}
def tRevT (K : PySem.W.Frag) (te : TE) : TE := fun σ H Q => te σ H fun x G => ∃ a xs, x = .ref a ∧ SqT K G a xs ∧ ∀ p, G p = none → Q (.ref p) (upd G p (.tup xs.reverse))
theorem pe_revT (he : PE X e te) : PE X (.Subscript e (.Slice none none (some (.UnaryOp .USub (.Constant (.int 1) k p1) p2)) p3) pos) (tRevT X.K te) := by
  refine ⟨fun pins s σ H Q I told => Subscript_ (thn (he.run pins s σ H _ I told) ?_)⟩
  rintro v s1 ⟨x, H1, I1, rx, a, xs, rfl, hT, q⟩
  obtain rfl : v = Value.ref a := rx
  have back : PO X (some (.UnaryOp .USub (.Constant (.int 1) k p1) p2)) (tPart (tUn (rU fun i => .int (-i)) (tC (.int 1)))) := po_some (pe_un un_neg pe_int)
  refine wpAny_Slice (thn (po_none.run pins s1 σ H1 (fun o G => o = none ∧ G = H1) I1 ⟨rfl, rfl⟩) ?_)
  rintro vl s2 ⟨l, H2, I2, pl, rfl, rfl⟩
  refine thn (po_none.run pins s2 σ H2 (fun o G => o = none ∧ G = H2) I2 ⟨rfl, rfl⟩) ?_
  rintro vu s3 ⟨u, H3, I3, pu, rfl, rfl⟩
  refine thn (back.run pins s3 σ H3 (fun o G => o = some (-1) ∧ G = H3) I3 ⟨1, rfl, -1, rfl, rfl, rfl⟩) ?_
  rintro vs s4 ⟨o, H4, I4, ps, rfl, rfl⟩
  have I5 : Inv X pins σ H4 { s4 with heap := s4.heap.push { cls := .type "slice", data := .fields #[vl, vu, vs] } } := I4.kept (t' := s4.toks) (fun _ _ y => Heap.get?_push_of_some _ y)
  obtain ⟨its, rv, isT, room⟩ := I5.tuple hT
  have many := rv.length
  show wpAny _ _ (subscriptTail e _ (.ref a) (.ref s4.heap.objs.size)) _ _ { s4 with heap := s4.heap.push { cls := .type "slice", data := .fields #[vl, vu, vs] } }
  refine tail_any (ops := [.ref a, .ref s4.heap.objs.size]) isT.typeIs PyProof.Rows.slot_tuple_getitem.lookup ?_ (by with_unfolding_all rfl)
  refine get_back isT (Heap.IsSliceOf.new _ vl vu vs) pl pu ps ?_ (by rw [List.size_toArray]; omega)
  refine ⟨.ref _, _, I5.laid (t' := s4.toks) (o := .tup xs.reverse) (fun _ _ y => Heap.get?_push_of_some _ y) (Nat.le_refl _) ?_, rfl, q _ (I5.hok.fresh (Nat.le_refl _))⟩
  exact ⟨by rw [List.length_reverse]; exact room, its.reverse, rv.reverse, IsTup.new _ _⟩
end

/-! ### f(x = e): one parameter, given by its name -/
section
variable {X : Cx} {k : Nat} {f : Addr} {fd : FuncData} {y x : Str} {sp : Sp} {p pos kpos : Pos} {e : Expr} {te : TE}
def tKw (sp : Sp) (te : TE) : TE := fun σ H Q => te σ H fun v G => sp [v] G Q E0
theorem pe_kw1 (F : FnOk X.prog X.w X.K X.mg X.base CX0 k f fd [y] sp) (hr : Room k X.A) (hg : Gl X x) (hm : X.mg x = some (.ref f)) (hk : PySem.W.keepIn X.K (.ref f) = true)
    (hb : ∀ (s : Shared) (u : Value), BindsTo s fd ⟨[], [(y, u)]⟩ [(y, u)]) (he : PE X e te) (hdb : (x == ("__debug__" : Str)) = false := by decide)
    (h1 : (backToKw pos (keywordEach [⟨some y, e, kpos⟩] X.env)).all (·.1.isSome) = true := by rfl) (h2 : (backToKw pos (keywordEach [⟨some y, e, kpos⟩] X.env)).filterMap (·.1) = [y] := by rfl)
    (h3 : ((backTo pos (starEach [] X.env)).any (·.1) || (backToKw pos (keywordEach [⟨some y, e, kpos⟩] X.env)).any (·.1.isNone)) = false := by rfl) :
    PE X (.Call (.Name x p) [] [⟨some y, e, kpos⟩] pos) (tKw sp te) := by
  have hkw : PK X [⟨some y, e, kpos⟩] (tCons te tNil) := pk_cons he pk_nil
  refine ⟨fun pins s σ H Q I told => wpAny_Call_Name_kw (ld_glob I hg hm ?_ hdb)⟩
  refine PySem.W.callWith_KW0 (h₀ := X.base) I.ok.mod.kin hk h1 (thn (hkw.run pos pins s σ H (fun vs G => sp vs G Q E0) I told) ?_) h3
  · rintro us s1 ⟨vs, H1, I1, rv, q⟩
    refine ⟨I1.kIn, ?_⟩
    rw [h2]
    have n1 := F.len _ _ _ _ q
    obtain ⟨v, rfl⟩ : ∃ v, vs = [v] := by
      match vs, n1 with
      | [v], _ => exact ⟨v, rfl⟩
    obtain ⟨u, rfl, ru⟩ := vals1 rv
    refine wpAny_call (codeAny_mono (F.run X.A X.stack s1 H1 ⟨[], [(y, u)]⟩ [u] [v] Q E0 hr I1.env0 (hb s1 u) rv q) ?_)
    intro r s2 out
    cases r with
    | error _ => exact False.elim out
    | ok fl =>
      cases fl with
      | ret u => exact I1.after out
      | next => exact False.elim out
      | brk => exact False.elim out
      | cont => exact False.elim out
end
end Kn


namespace Kn
open PySem PySem.Spec PyProof.Rows L2
abbrev nLaw : List Str := ["_law_script", "_law_feed", "_law_lap", "_law_page_here", "_law_entries", "_law_late", "_law_counts", "_law_kept", "_law_k", "_law_entry"]
theorem scLaw : FnScope nLaw ["_law_script"] (defScope (topS 39)) := ⟨rfl, rfl, rfl, by decide +kernel, rfl, by decide +kernel, by decide +kernel⟩
def spLaw (K : PySem.W.Frag) : Sp := fun vs H Q _ => ∃ (a : Addr) (ns : List Int), vs = [.ref a] ∧ SqL K H a (ns.map V.int) ∧ ns.length ≤ 63 ∧ ∀ H', Q (.bl true) H'
def asks4 : List Str := ["q", "asker", "kind", "abcdefgh"]
theorem asks4_nm : ∀ y ∈ asks4, y ∈ nm := by decide +kernel
theorem nm_fit {y : Str} (h : y ∈ nm) : Fit 8 y := by
  rcases List.mem_append.mp h with h | h
  · exact names_fit y h
  · rw [List.mem_singleton.mp h]
    exact fit_of "q" (by decide)
theorem sIx_one (n : Nat) : HT.sIx n n (some 1) = min 1 n := HT.sIx_nat n n 1
theorem cut_one {α : Type} (xs : List α) : (xs.drop 0).take (min 1 xs.length - 0) = xs.take 1 := by
  rw [List.drop_zero, Nat.sub_zero]
  cases xs with
  | nil => rfl
  | cons x r => rw [List.length_cons, Nat.min_eq_left (by omega)]
theorem cutV_one (xs : List V) : cutV xs none (some 1) = xs.take 1 := by
  unfold cutV
  rw [sIx_one, HT.sIx_none]
  exact cut_one xs
theorem slice_one {K : PySem.W.Frag} {H : Hp} {q : Addr} {ws : List V} {Q : VK} (ne : ws ≠ []) (hT : SqT K H q ws) (k : ∀ b H', Same H H' → SqT K H' b (ws.take 1) → Q (.ref b) H') : rSlA K (.ref q) none (some 1) H Q := by
  have n0 : 0 < ws.length := List.length_pos_iff.mpr ne
  refine ⟨q, ws, rfl, hT, fun h => ?_, fun h p np => ?_⟩
  · have e := h.2
    rw [sIx_one] at e
    have : ws.take 1 = ws := List.take_of_length_le (by omega)
    exact k q H (Same.refl H) (by rw [this]; exact hT)
  · rw [cutV_one]
    exact k p _ (same_new np) (.inl (.inl upd_same))
theorem EntsAt.take {K : PySem.W.Frag} {H : Hp} : ∀ {vs : List V} {es : List Ent} (n : Nat), EntsAt K H vs es → EntsAt K H (vs.take n) (es.take n)
  | _, _, 0, _ => .nil
  | _, _, n + 1, .nil => .nil
  | _, _, n + 1, .cons a b => .cons a (EntsAt.take n b)
theorem g_atS {i : Nat} {v : V} {σ : L2.St} {H : Hp} {t u : L2.TS} {D : Ends} (h : tSeq t u D (σ.set i (some v)) H) : gName i v σ H (tSeq t u D) := h
section
variable {P : Program} {w : World} {K : PySem.W.Frag} {mg : Str → Option Value} {base : Heap}
theorem ok_law {g gB gP gD gE gA gC gR gQ gN : Addr} {fd fB fP fD fE fA fC fR fQ fN : FuncData} (F : Fun K "law" "law" (topS 39) g fd)
    (B : Def K mg "_law_start" 25 ["_law_script"] gB fB) (OB : FnOk P w K mg base CX0 1 gB fB ["_law_script"] (spStart K))
    (G : Def K mg "_law_page" 29 ["_law_feed", "_law_most"] gP fP) (OG : FnOk P w K mg base CX0 4 gP fP ["_law_feed", "_law_most"] (spPg K))
    (D : Def K mg "_law_draw" 26 ["_law_feed", "_law_many"] gD fD) (OD : FnOk P w K mg base CX0 1 gD fD ["_law_feed", "_law_many"] spDraw)
    (N : Def K mg "_law_any_entry" 35 ["_law_feed"] gE fE) (ON : FnOk P w K mg base CX0 4 gE fE ["_law_feed"] (spEnt K))
    (A' : Def K mg "_law_any" 27 ["_law_feed", "_law_some"] gA fA) (OA : FnOk P w K mg base CX0 2 gA fA ["_law_feed", "_law_some"] (spAny K))
    (C : Def K mg "_law_cost" 34 ["_law_feed"] gC fC) (OC : FnOk P w K mg base CX0 3 gC fC ["_law_feed"] spCost)
    (R : Def K mg "_law_is_entry_right" 36 ["_law_entry"] gR fR) (OR : Vow P w K mg base 5 gR fR ["_law_entry"] (spEr K))
    (Qp : Def K mg "_law_is_page_right" 37 ["_law_page_here"] gQ fQ) (OQ : Vow P w K mg base 6 gQ fQ ["_law_page_here"] (spPr K))
    (M : Def K mg "_law_are_counts_right" 38 ["_law_counts"] gN fN) (OM : Vow P w K mg base 4 gN fN ["_law_counts"] (spCr K))
    (mr : mg "range" = none) (mt : mg "tuple" = none) (mp : mg "repr" = none) (mli : mg "list" = none) :
    Vow P w K mg base 7 g fd ["_law_script"] (spLaw K) := by
  refine Vow.body F scLaw (fun vs H Q E h => ?_) (fun cdv A outer s H vs Q E hq hr h => ?_)
  · obtain ⟨a, ns, rfl, _⟩ := h
    rfl
  · obtain ⟨a0, ns0, rfl, hS, hl, q⟩ := h
    have hr1 : Room 1 _ := hr.mono (by decide)
    have hr2 : Room 2 _ := hr.mono (by decide)
    have hr3 : Room 3 _ := hr.mono (by decide)
    have hr4 : Room 4 _ := hr.mono (by decide)
    have hr5 : Room 5 _ := hr.mono (by decide)
    refine ⟨_, pss_cons (ps_set (i := 1) scLaw.nd rfl (.inr rfl) (pe_call OB hr1 (by rfl) B.m B.F.kp B.b .nil pass0 (pa_cons (pv 0) pa_nil)))
      (pss_cons (ps_for PassesOwn.never rfl (pi_range1 (by rfl) mr (pa_cons pe_int pa_nil)) (pg_name (i := 2) scLaw.nd rfl (.inl rfl))
        (pss_cons (ps_set (i := 3) scLaw.nd rfl (.inl rfl) (pe_call OG hr4 (by rfl) G.m G.F.kp G.b .nil pass0 (pa_cons (pv 1) (pa_cons pe_int pa_nil))))
        (pss_cons (ps_setLc (i := 4) (own := [("_law_k", 8)]) (g := gName 8) (by rfl) scLaw.nd rfl rfl (sw_true rfl rfl rfl (by decide +kernel)) (pi_range1 (by rfl) mr (pa_cons (pe_call OD hr1 (by rfl) D.m D.F.kp D.b .nil pass0 (pa_cons (pv 1) (pa_cons pe_int pa_nil))) pa_nil)) (blkOk_by (own := [("_law_k", 8)]) (N := nLaw) (sc := defScope (topS 39)) (by decide +kernel))
          (fun _ _ _ _ _ => pg_name (i := 8) scLaw.nd rfl (Or.inl rfl)) (fun _ _ _ _ _ => pts_nil) (fun _ _ _ _ _ => pe_call ON hr4 (by rfl) N.m N.F.kp N.b .nil pass0 (pa_cons (pv 1) pa_nil)))
        (pss_cons (ps_set (i := 5) scLaw.nd rfl (.inl rfl) (pe_tup (pa_cons (pe_callTy call_tuple_of (by rfl) mt boot_tuple (pa_cons (pe_op op_cat (pv 4) (pe_slice sl_list (pv 4) po_none (po_some pe_int))) pa_nil)) (pa_cons (pe_call OA hr2 (by rfl) A'.m A'.F.kp A'.b .nil pass0 (pa_cons (pv 1) (pa_cons (pe_lst (pa_cons pe_str (pa_cons pe_str (pa_cons pe_str (pa_cons pe_str pa_nil))))) pa_nil))) pa_nil))))
        (pss_cons (ps_set (i := 6) scLaw.nd rfl (.inl rfl) (pe_callTy call_tuple_of (by rfl) mt boot_tuple (pa_cons (pe_lc (own := [("_law_k", 8)]) (g := gName 8) (by rfl) scLaw.nd (pi_range1 (by rfl) mr (pa_cons (pe_op op_add pe_int (pe_call OD hr1 (by rfl) D.m D.F.kp D.b .nil pass0 (pa_cons (pv 1) (pa_cons pe_int pa_nil)))) pa_nil)) (blkOk_by (own := [("_law_k", 8)]) (N := nLaw) (sc := defScope (topS 39)) (by decide +kernel))
          (fun _ _ _ _ _ => pg_name (i := 8) scLaw.nd rfl (Or.inl rfl)) (fun _ _ _ _ _ => pts_nil) (fun _ _ _ _ _ => pe_call OC hr3 (by rfl) C.m C.F.kp C.b .nil pass0 (pa_cons (pv 1) pa_nil))) pa_nil)))
        (pss_cons (ps_set (i := 7) scLaw.nd rfl (.inl rfl) (pe_callB (call_show hq hr.units) (by rfl) mp boot_repr (pa_cons (pe_lst (pa_cons (pv 3) (pa_cons (pv 5) (pa_cons (pv 6) pa_nil)))) pa_nil)))
        (pss_cons (ps_if (pt_cmpR (op_neD hr.units) (pe_lc (own := [("_law_entry", 9)]) (g := gName 9) (by rfl) scLaw.nd (pi_list (pe_op op_cat (pe_callTy call_list_of (by rfl) mli (by decide +kernel) (pa_cons (pe_ix ix_tup (pv 3) pe_int (fun _ _ => rfl)) pa_nil)) (pv 4))) (blkOk_by (own := [("_law_entry", 9)]) (N := nLaw) (sc := defScope (topS 39)) (by decide +kernel))
              (fun _ _ _ _ _ => pg_name (i := 9) scLaw.nd rfl (Or.inl rfl)) (fun _ _ _ _ _ => pts_one (pt_not (pt_val (pe_vow OR hq hr5 (by rfl) R.m R.F.kp R.b (pa_cons (pv 9) pa_nil))))) (fun _ _ _ _ _ => pv 9)) (pe_lst pa_nil) (nomark _)) (pss_one (ps_ret pe_bl)) pss_nil)
        (pss_cons (ps_if (PW.pt (pw_or (pt_not (pt_val (pe_vow OQ hq hr (by rfl) Qp.m Qp.F.kp Qp.b (pa_cons (pv 3) pa_nil)))) (pw_or (pt_not (pt_val (pe_vow OQ hq hr (by rfl) Qp.m Qp.F.kp Qp.b (pa_cons (pv 5) pa_nil)))) (pw_or1 (pt_not (pt_val (pe_vow OQ hq hr (by rfl) Qp.m Qp.F.kp Qp.b (pa_cons (pe_tup (pa_cons (pe_tup pa_nil) (pa_cons (pe_ix ix_tup (pv 3) pe_int (fun _ _ => rfl)) pa_nil))) pa_nil)))))))) (pss_one (ps_ret pe_bl)) pss_nil)
        (pss_cons (ps_if (PW.pt (pw_or (pt_not (pt_val (pe_vow OM hq hr4 (by rfl) M.m M.F.kp M.b (pa_cons (pv 6) pa_nil)))) (pw_or1 (pt_not (pt_val (pe_vow OM hq hr4 (by rfl) M.m M.F.kp M.b (pa_cons (pe_slice sl_tupA (pv 6) po_none (po_some pe_int)) pa_nil))))))) (pss_one (ps_ret pe_bl)) pss_nil)
        (pss_one (ps_if (pt_cmpR op_ne (pe_callB (call_show hq hr.units) (by rfl) mp boot_repr (pa_cons (pe_lst (pa_cons (pv 3) (pa_cons (pv 5) (pa_cons (pv 6) pa_nil)))) pa_nil)) (pv 7) (nomark _)) (pss_one (ps_ret pe_bl)) pss_nil)))))))))))
      (pss_one (ps_ret pe_bl))), ?_⟩
    -- the feed
    refine ⟨_, rfl, a0, ns0, rfl, hS, hl, fun f a ms H1 _ _ fd1 => ?_⟩
    refine ⟨3, rfl, by decide, by decide, for_range (lo := 0) (n := (3 : Int).toNat) (fun i σ J => ∃ y2 y3 y4 y5 y6 y7 y8 y9, σ = [some (.ref a0), some (.ref f), y2, y3, y4, y5, y6, y7, y8, y9] ∧ Fd f a ms J (1000 * i))
      ⟨none, none, none, none, none, none, none, none, rfl, fd1⟩ ?_ ?_⟩
    · rintro i σ J hi ⟨y2, y3, y4, y5, y6, y7, y8, y9, rfl, fdJ⟩
      have hi : i < 3 := hi
      -- the page
      refine ⟨_, rfl, f, a, ms, _, 5, rfl, by decide, by decide, fdJ, by omega, fun v g J1 pg1 ok1 nice1 ask1 g0 g5 k1 fd1 => ?_⟩
      -- entries
      try dsimp only
      refine seq_asg ?_
      refine ⟨_, rfl, f, a, ms, _, 7, rfl, by decide, by decide, fd1, by omega, fun r J2 r0 r1 k2 fd2 => ⟨r, rfl, by omega, by omega, fun D1 nD => ?_⟩⟩
      have pg2 := pg1.ts (ts_fd fd1 k2)
      have nDf := fd2.free nD
      refine lc_range (lo := 0) (n := r.toNat) (fun j X => Keep f J2 X ∧ Fd f a ms X (1000 * i + 61 + 20 * j) ∧ ∃ ws es, X D1 = some (.lst ws) ∧ EntsAt K X ws es ∧ es.length = j ∧ ∀ e ∈ es, e.ok ∧ e.nice)
        ⟨keep_same (same_new nD), fd2.same (same_new nD), [], [], upd_same, .nil, rfl, fun e he => by cases he⟩ ?_ ?_
      · rintro j X hj ⟨kX, fdX, ws, es, eD, hE, lE, okE⟩
        refine ⟨rfl, ?_⟩
        simp only [tYes, ↓reduceIte]
        refine ⟨_, rfl, f, a, ms, _, rfl, fdX, by omega, fun v' e X' hv he hn k' fd' => ?_⟩
        have eD' := k' _ _ (fd_ne fdX eD) eD
        refine ⟨ws, eD', by rw [hE.len]; exact small' (by omega), fun b o nb hb => ?_, (fd'.own nDf.1 nDf.2).more (by omega), ws ++ [v'], es ++ [e], upd_same, ?_, ?_, ?_⟩
        · rw [upd_ne (ne_of_none hb nD)]
          exact k' _ _ nb (kX _ _ nb hb)
        · exact ((hE.ts (ts_fd fdX k')).append (.cons hv .nil)).ts (ts_lst eD')
        · rw [List.length_append, lE]
          rfl
        · intro e' he'
          rcases List.mem_append.mp he' with h | h
          · exact okE e' h
          · rw [List.mem_singleton.mp h]
            exact ⟨he, hn⟩
      · rintro X ⟨kX, fdX, ws, es, eD, hE, lE, okE⟩
        have lE6 : es.length ≤ 6 := by omega
        have pgX := pg2.ts (ts_fd fd2 kX)
        -- late
        refine ⟨.ref D1, rfl, .ref D1, rfl, 1, rfl, D1, ws, rfl, .inl (.inl eD), fun sl nsl => ?_⟩
        rw [cutV_one]
        have s1 := same_new (o := .lst (ws.take 1)) nsl
        refine ⟨D1, sl, ws, ws.take 1, rfl, rfl, s1 _ _ eD, upd_same, ?_, fun ct nct => ?_⟩
        · rw [List.length_take, hE.len]
          exact Nat.le_of_lt (small' (by omega))
        have s2 := s1.trans (same_new (o := .lst (ws ++ ws.take 1)) nct)
        refine ⟨ct, ws ++ ws.take 1, rfl, .inl ⟨.inl (.inl upd_same), fun te nte => ?_⟩⟩
        have s3 := s2.trans (same_new (o := .tup (ws ++ ws.take 1)) nte)
        have eTe : (upd (upd (upd X sl (.lst (ws.take 1))) ct (.lst (ws ++ ws.take 1))) te (.tup (ws ++ ws.take 1))) te = some (.tup (ws ++ ws.take 1)) := upd_same
        have fd3 := fdX.same s3
        have hE3 := hE.same s3
        have pg3 := pgX.same s3
        have eD3 := s3 _ _ eD
        generalize upd (upd (upd X sl (.lst (ws.take 1))) ct (.lst (ws ++ ws.take 1))) te (.tup (ws ++ ws.take 1)) = J3 at eTe fd3 hE3 pg3 eD3 ⊢
        refine ⟨_, rfl, (show 4 ≤ sizeLine by decide), fun pl npl => ?_⟩
        have sP := same_new (o := .lst (asks4.map V.str)) npl
        refine ⟨f, a, pl, ms, _, asks4.map V.str, rfl, fd3.same sP, by omega, .inl (.inl upd_same), (show 0 < 4 by decide), (show 4 ≤ 1000 by decide), fun x J4 hx k4 fd4 => ⟨(show 2 ≤ sizeLine by decide), fun ta nta => ?_⟩⟩
        obtain ⟨asks, hasks, rfl⟩ := List.mem_map.mp hx
        have hnm := asks4_nm asks hasks
        have ts4 : TS J3 (upd J4 ta (.tup [.ref te, .str asks])) := ((ts_same sP).trans (ts_fd (fd3.same sP) k4)).trans (ts_same (same_new nta))
        have pg5 := pg3.ts ts4
        have hE5 := hE3.ts ts4
        have late5 : PgAt K (upd J4 ta (.tup [.ref te, .str asks])) (.ref ta) ⟨es ++ es.take 1, asks⟩ :=
          ⟨ta, te, ws ++ ws.take 1, rfl, .inl (.inl upd_same), tupT ts4 (.inl (.inl eTe)), hE5.append (hE5.take 1)⟩
        have eD5 : (upd J4 ta (.tup [.ref te, .str asks])) D1 = some (.lst ws) := same_new nta _ _ (k4 _ _ (fd_ne (fd3.same sP) (sP _ _ eD3)) (sP _ _ eD3))
        have okL : Pg.ok ⟨es ++ es.take 1, asks⟩ := by
          refine ⟨by show (es ++ es.take 1).length ≤ 12; rw [List.length_append, List.length_take]; omega, fun e he => ?_, nm_fit hnm⟩
          rcases List.mem_append.mp he with h | h
          · exact (okE e h).1
          · exact (okE e (List.mem_of_mem_take h)).1
        have niceL : ∀ e ∈ es ++ es.take 1, e.nice := fun e he => by
          rcases List.mem_append.mp he with h | h
          · exact (okE e h).2
          · exact (okE e (List.mem_of_mem_take h)).2
        have fd5 := fd4.same (same_new (o := .tup [.ref te, .str asks]) nta)
        generalize upd J4 ta (.tup [.ref te, .str asks]) = J5 at pg5 hE5 late5 eD5 fd5 ⊢
        -- counts
        dsimp only
        refine g_atS ?_
        dsimp only [tSeq, tAsg, tCB, tCons]
        refine ⟨_, rfl, f, a, ms, _, 8, rfl, by decide, by decide, fd5, by omega, fun r2 J6 r20 r21 k6 fd6 => ⟨1, r2, rfl, rfl, _, rfl, by omega, by omega, fun D2 nD2 => ?_⟩⟩
        have eD6 := k6 _ _ (fd_ne fd5 eD5) eD5
        have ts6 := ts_fd fd5 k6
        have pg6 := pg5.ts ts6
        have late6 := late5.ts ts6
        have hE6 := hE5.ts ts6
        have nD2f := fd6.free nD2
        refine lc_range (lo := 0) (n := (1 + r2).toNat) (fun j Y => Keep f J6 Y ∧ Fd f a ms Y (1000 * i + 300 + j) ∧ ∃ ks : List Int, Y D2 = some (.lst (ks.map V.int)) ∧ ks.length = j ∧ ∀ k ∈ ks, k ∈ feesAll)
          ⟨keep_same (same_new nD2), (fd6.same (same_new nD2)).more (by omega), [], upd_same, rfl, fun k hk => by cases hk⟩ ?_ ?_
        · rintro j Y hj ⟨kY, fdY, ks, eY, lk, hk⟩
          refine ⟨rfl, ?_⟩
          simp only [tYes, ↓reduceIte]
          refine ⟨_, rfl, f, a, ms, _, rfl, fdY, by omega, fun n Y' hn k' fd' => ?_⟩
          refine ⟨ks.map V.int, k' _ _ (fd_ne fdY eY) eY, by rw [List.length_map]; exact small' (by omega), fun b o nb hb => ?_, (fd'.own nD2f.1 nD2f.2).more (by omega), ks ++ [n], ?_, ?_, ?_⟩
          · rw [upd_ne (ne_of_none hb nD2)]
            exact k' _ _ nb (kY _ _ nb hb)
          · rw [upd_same, List.map_append]
            rfl
          · rw [List.length_append, lk]
            rfl
          · intro k hk'
            rcases List.mem_append.mp hk' with h | h
            · exact hk k h
            · rw [List.mem_singleton.mp h]
              exact costs_all n hn
        · rintro Y ⟨kY, fdY, ks, eY, lk, hk⟩
          have tsY := ts_fd fd6 kY
          have pgY := pg6.ts tsY
          have lateY := late6.ts tsY
          have hEY := hE6.ts tsY
          have eDY := kY _ _ (fd_ne fd6 eD6) eD6
          have lk8 : ks.length ≤ 8 := by omega
          have lk0 : ks ≠ [] := fun z => by
            rw [z] at lk
            have : 0 = (1 + r2).toNat := lk
            omega
          refine ⟨D2, ks.map V.int, rfl, .inl ⟨.inl (.inl eY), fun cp ncp => ?_⟩⟩
          have sC := same_new (o := .tup (ks.map V.int)) ncp
          have hC : SqT K (upd Y cp (.tup (ks.map V.int))) cp (ks.map V.int) := .inl (.inl upd_same)
          have pg7 := pgY.same sC
          have late7 := lateY.same sC
          have hE7 := hEY.same sC
          have eD7 := sC _ _ eDY
          have fd7 := fdY.same sC
          generalize upd Y cp (.tup (ks.map V.int)) = J7 at hC pg7 late7 hE7 eD7 fd7 ⊢
          -- kept
          have shd : Sh 5 400000 (.list [dPg g, dPg ⟨es ++ es.take 1, asks⟩, dCts ks]) := by
            refine (sh_list (k := 4) (B := 100000) (n := 3) ?_ (by simp)).mono (by decide) (by decide)
            intro d hd
            simp only [List.mem_cons, List.not_mem_nil, or_false] at hd
            rcases hd with rfl | rfl | rfl
            · exact sh_pg ok1
            · exact sh_pg okL
            · exact (sh_cts lk8 hk).mono (by decide) (by decide)
          refine ⟨v, rfl, .ref ta, rfl, .ref cp, rfl, (show 3 ≤ sizeLine by decide), fun z nz => ⟨z, .list [dPg g, dPg ⟨es ++ es.take 1, asks⟩, dCts ks], rfl, .lst (.inl (.inl upd_same)) (.cons (pg7.same (same_new nz)).dp (.cons (late7.same (same_new nz)).dp (.cons (dp_cts (tupS (same_new nz) hC)) .nil))), shd.ok, shd.nd, Nat.le_trans shd.dp (by decide), Nat.le_trans shd.ln (by decide), ?_⟩⟩
          have sZ := same_new (o := .lst [v, .ref ta, .ref cp]) nz
          have pg8 := pg7.same sZ
          have late8 := late7.same sZ
          have hE8 := hE7.same sZ
          have eD8 := sZ _ _ eD7
          have fd8 := fd7.same sZ
          have hC8 := tupS sZ hC
          generalize upd J7 z (.lst [v, .ref ta, .ref cp]) = J8 at pg8 late8 hE8 eD8 fd8 hC8 ⊢
          -- the entries
          obtain ⟨pp, pq, vs8, rfl, hp, hw, hEP⟩ := id pg8
          have lv : vs8.length ≤ 5 := by rw [hEP.len]; exact g5
          refine ⟨.ref pp, rfl, pp, _, 0, .ref pq, rfl, rfl, hp, atI_nat (j := 0) rfl, pq, vs8, rfl, .inr hw, fun q1 nq1 => ?_⟩
          refine ⟨.ref D1, rfl, q1, D1, vs8, ws, rfl, rfl, upd_same, same_new nq1 _ _ eD8, ?_, fun q2 nq2 => ?_⟩
          · rw [hE8.len]
            exact Nat.le_of_lt (small' (by omega))
          have s9 := (same_new (o := .lst vs8) nq1).trans (same_new (o := .lst (vs8 ++ ws)) nq2)
          have e9 : (upd (upd J8 q1 (.lst vs8)) q2 (.lst (vs8 ++ ws))) q2 = some (.lst (vs8 ++ ws)) := upd_same
          have hEA := (hEP.append hE8).same s9
          have pg9 := pg8.same s9
          have late9 := late8.same s9
          have fd9 := fd8.same s9
          have hC9 := tupS s9 hC8
          have hp9 := tupS s9 hp
          generalize upd (upd J8 q1 (.lst vs8)) q2 (.lst (vs8 ++ ws)) = J9 at e9 hEA pg9 late9 fd9 hC9 hp9 ⊢
          refine ⟨q2, rfl, ⟨_, .inl (.inl e9)⟩, fun D3 nD3 => ?_⟩
          refine lc_list (K := K) (a := q2) (xs := vs8 ++ ws) (fun j Y => Same J9 Y ∧ Y D3 = some (.lst [])) ⟨same_new nD3, upd_same⟩ (fun j Y _ h => .inl (.inl (h.1 _ _ e9))) ?_ ?_
          · rintro j x Y hx ⟨sY, eY3⟩
            obtain ⟨e, he, hv⟩ := hEA.get hx
            have hme := List.mem_of_getElem? he
            have both : e.ok ∧ e.nice := by
              rcases List.mem_append.mp hme with h | h
              · exact ⟨ok1.2.1 e h, nice1 e h⟩
              · exact okE e h
            refine ⟨rfl, ?_⟩
            refine ⟨_, rfl, x, e, rfl, hv.same sY, both.1, both.2, fun Y' s' => ⟨true, rfl, iteF ⟨sY.trans s', s' _ _ eY3⟩⟩⟩
          rintro Y2 ⟨sY, eY3⟩
          refine ⟨Nat.zero_le _, fun z2 nz2 => ⟨.list [], .list [], .lst (.inl (.inl (same_new nz2 _ _ eY3))) .nil, .lst (.inl (.inl upd_same)) .nil, rfl, rfl, _, rfl, ?_⟩⟩
          refine iteF ?_
          have s10 := sY.trans (same_new (o := .lst []) nz2)
          have pg10 := pg9.same s10
          have late10 := late9.same s10
          have fd10 := fd9.same s10
          have hC10 := tupS s10 hC9
          have hp10 := tupS s10 hp9
          generalize upd Y2 z2 (.lst []) = J10 at pg10 late10 fd10 hC10 hp10 ⊢
          -- the pages
          have nmA : g.asks ∈ nm := List.mem_append_left _ ask1
          refine ⟨_, rfl, _, g, rfl, pg10, ok1, nice1, nmA, fun J11 s11 => ⟨true, rfl, iteF ?_⟩⟩
          refine ⟨_, rfl, _, _, rfl, late10.same s11, okL, niceL, hnm, fun J12 s12 => ⟨true, rfl, iteF ?_⟩⟩
          have hp12 := tupS (s11.trans s12) hp10
          refine ⟨Nat.zero_le _, fun em nem => ⟨.ref pp, rfl, pp, _, 1, .str g.asks, rfl, rfl, tupS (same_new nem) hp12, atI_nat (j := 1) rfl, (show 2 ≤ sizeLine by decide), fun t5 nt5 => ?_⟩⟩
          have sE := (same_new (o := .tup []) nem).trans (same_new (o := .tup [.ref em, .str g.asks]) nt5)
          refine ⟨_, ⟨[], g.asks⟩, rfl, ⟨t5, em, [], rfl, .inl (.inl upd_same), tupS (same_new nt5) (.inl (.inl upd_same)), .nil⟩, ⟨by show 0 ≤ 12; decide, (fun e he => by cases he), ok1.2.2⟩, (fun e he => by cases he), nmA, fun J13 s13 => ⟨true, rfl, iteF ?_⟩⟩
          have s14 := ((s11.trans s12).trans sE).trans s13
          have pg14 := pg10.same s14
          have late14 := late10.same s14
          have fd14 := fd10.same s14
          have hC14 := tupS s14 hC10
          -- the counts
          refine ⟨_, rfl, cp, ks, rfl, hC14, lk0, lk8, hk, fun J15 s15 => ⟨true, rfl, iteF ?_⟩⟩
          have hC15 := tupS s15 hC14
          have nek : ks.map V.int ≠ [] := by simpa using lk0
          refine ⟨_, rfl, 1, rfl, slice_one nek hC15 fun b J16 s16 hb => ?_⟩
          have hb' : SqT K J16 b ((ks.take 1).map V.int) := by rw [List.map_take]; exact hb
          have n1 : ks.take 1 ≠ [] := by
            cases ks with
            | nil => exact absurd rfl lk0
            | cons x r => simp
          refine ⟨b, ks.take 1, rfl, hb', n1, by rw [List.length_take]; omega, fun k hk' => hk k (List.mem_of_mem_take hk'), fun J17 s17 => ⟨true, rfl, iteF ?_⟩⟩
          have s18 := (s15.trans s16).trans s17
          have pg18 := pg14.same s18
          have late18 := late14.same s18
          have fd18 := fd14.same s18
          have hC18 := tupS s18 hC14
          refine ⟨.ref pp, rfl, .ref ta, rfl, .ref cp, rfl, (show 3 ≤ sizeLine by decide), fun z nz => ⟨z, .list [dPg g, dPg ⟨es ++ es.take 1, asks⟩, dCts ks], rfl, .lst (.inl (.inl upd_same)) (.cons (pg18.same (same_new nz)).dp (.cons (late18.same (same_new nz)).dp (.cons (dp_cts (tupS (same_new nz) hC18)) .nil))), shd.ok, shd.nd, Nat.le_trans shd.dp (by decide), Nat.le_trans shd.ln (by decide), ?_⟩⟩
          refine ⟨_, rfl, rfl, _, rfl, iteNS rfl ?_⟩
          exact ⟨_, _, _, _, _, _, _, _, rfl, (fd18.same (same_new nz)).more (by omega)⟩
    · rintro σ J ⟨y2, y3, y4, y5, y6, y7, y8, y9, rfl, _⟩
      exact q J
end
end Kn


namespace Kn
open PySem PySem.Spec PyProof.Rows L2
/-! ### what the top has written -/
def At (K : PySem.W.Frag) (x : Str) (i : Nat) : Prop := ∃ (f : Addr) (oc : Value) (od an : Option Addr) (sl : Array (Option Value)) (kV dc pm cd ct : Value),
  PySem.W.nsIn K mainGlobals x = some (some (.ref f)) ∧ K.lookup f = some ⟨oc, od, .func (PySem.W.fnOf x x (defArgs (topS i)) (defBody (topS i)) (defScope (topS i)) .none kV dc pm an cd ct), sl⟩ ∧ PySem.W.codeIn K cd x = true ∧ PySem.W.keepIn K (.ref f) = true
theorem at_mk {K : PySem.W.Frag} {x : Str} {i : Nat} {f : Addr} {oc kV dc pm cd ct : Value} {od an : Option Addr} {sl : Array (Option Value)} (a : PySem.W.nsIn K mainGlobals x = some (some (.ref f)))
    (l : K.lookup f = some ⟨oc, od, .func (PySem.W.fnOf x x (defArgs (topS i)) (defBody (topS i)) (defScope (topS i)) .none kV dc pm an cd ct), sl⟩) (c : PySem.W.codeIn K cd x = true) (k : PySem.W.keepIn K (.ref f) = true) : At K x i :=
  ⟨f, oc, od, an, sl, kV, dc, pm, cd, ct, a, l, c, k⟩
/-- the same of a reader -/
def AtD (K : PySem.W.Frag) (x : Str) (i : Nat) : Prop := ∃ (f D : Addr) (oc : Value) (od an : Option Addr) (sl : Array (Option Value)) (dc pm cd ct : Value) (t1 t2 : Tok),
  PySem.W.nsIn K mainGlobals x = some (some (.ref f)) ∧ K.lookup f = some ⟨oc, od, .func (PySem.W.fnOf x x (defArgs (topS i)) (defBody (topS i)) (defScope (topS i)) .none (.ref D) dc pm an cd ct), sl⟩ ∧ PySem.W.codeIn K cd x = true ∧ PySem.W.keepIn K (.ref f) = true ∧
  PySem.W.nsIn K D "line" = some (some (.int 0 t1)) ∧ PySem.W.nsIn K D "field" = some (some (.int 0 t2))
theorem atD_mk {K : PySem.W.Frag} {x : Str} {i : Nat} {f D : Addr} {oc dc pm cd ct : Value} {od an : Option Addr} {sl : Array (Option Value)} {t1 t2 : Tok} (a : PySem.W.nsIn K mainGlobals x = some (some (.ref f)))
    (l : K.lookup f = some ⟨oc, od, .func (PySem.W.fnOf x x (defArgs (topS i)) (defBody (topS i)) (defScope (topS i)) .none (.ref D) dc pm an cd ct), sl⟩) (c : PySem.W.codeIn K cd x = true) (k : PySem.W.keepIn K (.ref f) = true)
    (d1 : PySem.W.nsIn K D "line" = some (some (.int 0 t1))) (d2 : PySem.W.nsIn K D "field" = some (some (.int 0 t2))) : AtD K x i :=
  ⟨f, D, oc, od, an, sl, dc, pm, cd, ct, t1, t2, a, l, c, k, d1, d2⟩
section
variable {K : PySem.W.Frag} {mg : Str → Option Value} {h : Heap} {x y : Str} {i : Nat} {ps : List Str}
theorem def_of (X : K.In h) (G : h.Ns mainGlobals mg) (t : At K x i)
    (b : ∀ (kV doc pm : Value) (an : Option Addr) (cdv ct : Value) (us : List Value), us.length = ps.length → bindArgs (PySem.W.fnOf x x (defArgs (topS i)) (defBody (topS i)) (defScope (topS i)) .none kV doc pm an cdv ct) ⟨us, []⟩ = pure (ps.zip us)) :
    ∃ f fd, Def K mg x i ps f fd := by
  obtain ⟨f, oc, od, an, sl, kV, dc, pm, cd, ct, a, l, c, k⟩ := t
  have F := fun_mk (st := topS i) l c k
  exact ⟨f, _, F, F.binds b, PySem.W.mg_of X G a⟩
theorem rd_of (X : K.In h) (G : h.Ns mainGlobals mg) (t : AtD K x i)
    (b0 : ∀ (D : Addr) (doc pm : Value) (an : Option Addr) (cdv ct : Value) (us ks : List Value), us.length = 1 → ks.length = kw2.length → KwChain D ((kw2.map (·.1)).zip ks) (bindArgs (PySem.W.fnOf x x (defArgs (topS i)) (defBody (topS i)) (defScope (topS i)) .none (.ref D) doc pm an cdv ct) ⟨us, []⟩) ((["text", "line", "field"] : List Str).zip (us ++ ks)))
    (b2 : ∀ (D : Addr) (doc pm : Value) (an : Option Addr) (cdv ct : Value) (us mv ws : List Value), us.length = 1 → mv.length = ([] : List (Str × V)).length → ws.length = (["line", "field"] : List Str).length → KwChain D ((([] : List (Str × V)).map (·.1)).zip mv) (bindArgs (PySem.W.fnOf x x (defArgs (topS i)) (defBody (topS i)) (defScope (topS i)) .none (.ref D) doc pm an cdv ct) ⟨us, (["line", "field"] : List Str).zip ws⟩) ((["text", "line", "field"] : List Str).zip (us ++ (ws ++ mv))))
    (b1 : ∀ (D : Addr) (doc pm : Value) (an : Option Addr) (cdv ct : Value) (us mv ws : List Value), us.length = 1 → mv.length = ([("field", V.int 0)] : List (Str × V)).length → ws.length = (["line"] : List Str).length → KwChain D ((([("field", V.int 0)] : List (Str × V)).map (·.1)).zip mv) (bindArgs (PySem.W.fnOf x x (defArgs (topS i)) (defBody (topS i)) (defScope (topS i)) .none (.ref D) doc pm an cdv ct) ⟨us, (["line"] : List Str).zip ws⟩) ((["text", "line", "field"] : List Str).zip (us ++ (ws ++ mv)))) :
    ∃ (f : Addr) (fd : FuncData) (mv : List Value), FunD K x x (defArgs (topS i)) (defBody (topS i)) (defScope (topS i)) [] kw2 f fd ∧ Nonempty (Rd2 K mg x f fd) ∧ KBn K fd ["text", "line", "field"] 1 ["line"] (fun us ws => us ++ (ws ++ mv)) (fun vs zs => vs ++ (zs ++ [V.int 0])) := by
  obtain ⟨f, D, oc, od, an, sl, dc, pm, cd, ct, t1, t2, a, l, c, k, d1, d2⟩ := t
  have F : FunD K x x (defArgs (topS i)) (defBody (topS i)) (defScope (topS i)) [] kw2 f (PySem.W.fnOf x x (defArgs (topS i)) (defBody (topS i)) (defScope (topS i)) .none (.ref D) dc pm an cd ct) := by
    refine ⟨⟨oc, od, .none, .ref D, dc, pm, an, cd, ct, sl, rfl, l, c, .inl ⟨rfl, rfl⟩, .inr ⟨D, rfl, fun q hq => ?_⟩⟩, k⟩
    simp only [kw2, List.mem_cons, List.not_mem_nil, or_false] at hq
    rcases hq with rfl | rfl
    · exact ⟨_, d1, _, rfl⟩
    · exact ⟨_, d2, _, rfl⟩
  obtain ⟨ds, rd, bb⟩ := F.binds0 (ps := ["text", "line", "field"]) 1 (by simp) rfl b0
  obtain ⟨mv, kb⟩ := kbn0 (ps := ["text", "line", "field"]) F 1 ["line", "field"] [] (by simp) (fun q hq => by cases hq) b2
  obtain ⟨mv1, kb1⟩ := kbn0 (ps := ["text", "line", "field"]) F 1 ["line"] [("field", V.int 0)] (by simp) (fun q hq => by rw [List.mem_singleton.mp hq]; simp) b1
  exact ⟨f, _, mv1, F, ⟨⟨k, PySem.W.mg_of X G a, ds, rd, bb, mv, kb⟩⟩, kb1⟩
theorem all_mk {l : PySem.W.OpenLaw} {w : World} {fa : Addr} {tk1 tk2 : Tok} (X : K.In h) (G : h.Ns mainGlobals mg) (hfa : mg "law" = some (.ref fa))
    (t6 : At K "is_figures" 6)
    (t8 : At K "is_name" 8)
    (t9 : At K "is_table" 9)
    (t12 : At K "table_read" 12)
    (t13 : At K "can_stand" 13)
    (tIw : At K "is_numbers_word" 15)
    (t16 : At K "asker_read" 17)
    (t17 : At K "web_read" 18)
    (t19 : At K "table_text" 20)
    (t20 : At K "kind_text" 21)
    (t21 : At K "web_text" 22)
    (t22 : At K "numbers_text" 23)
    (t24 : At K "_law_start" 25)
    (t25 : At K "_law_draw" 26)
    (t26 : At K "_law_any" 27)
    (t27 : At K "_law_labels" 28)
    (t28 : At K "_law_page" 29)
    (t29 : At K "_law_joined" 30)
    (t30 : At K "_law_entry_line" 31)
    (t31 : At K "_law_page_text" 32)
    (t32 : At K "_law_same" 33)
    (t33 : At K "_law_cost" 34)
    (t34 : At K "_law_any_entry" 35)
    (t35 : At K "_law_is_entry_right" 36)
    (t36 : At K "_law_is_page_right" 37)
    (t37 : At K "_law_are_counts_right" 38)
    (t14 : AtD K "kind_read" 14) (t15 : AtD K "numbers_read" 16) (t38 : At K "law" 39)
    (z1 : PySem.W.nsIn K mainGlobals "len" = some none)
    (z2 : PySem.W.nsIn K mainGlobals "int" = some none)
    (z3 : PySem.W.nsIn K mainGlobals "range" = some none)
    (z4 : PySem.W.nsIn K mainGlobals "sorted" = some none)
    (z5 : PySem.W.nsIn K mainGlobals "tuple" = some none)
    (z6 : PySem.W.nsIn K mainGlobals "str" = some none)
    (z7 : PySem.W.nsIn K mainGlobals "repr" = some none)
    (z8 : PySem.W.nsIn K mainGlobals "isinstance" = some none)
    (z9 : PySem.W.nsIn K mainGlobals "enumerate" = some none)
    (z10 : PySem.W.nsIn K mainGlobals "all" = some none)
    (z11 : PySem.W.nsIn K mainGlobals "list" = some none)
    (c1 : PySem.W.nsIn K mainGlobals "MOST_DIGITS" = some (some (.int 60 tk1))) (c2 : PySem.W.nsIn K mainGlobals "KIND_WORDS" = some (some (.int 5 tk2))) :
    ∃ fd : FuncData, (∀ (s : Shared) (v : Value), BindsTo s fd ⟨[v], []⟩ [("_law_script", v)]) ∧ ∀ base : Heap, K.In base → base.Ns mainGlobals mg → Vow l.prog w K mg base 7 fa fd ["_law_script"] (spLaw K) := by
  obtain ⟨f6, d6, D6⟩ := def_of (mg := mg) (ps := ["word"]) X G t6 (fun _ _ _ _ _ _ us hl => match us, hl with | [_], _ => rfl)
  obtain ⟨f8, d8, D8⟩ := def_of (mg := mg) (ps := ["thing"]) X G t8 (fun _ _ _ _ _ _ us hl => match us, hl with | [_], _ => rfl)
  obtain ⟨f9, d9, D9⟩ := def_of (mg := mg) (ps := ["thing"]) X G t9 (fun _ _ _ _ _ _ us hl => match us, hl with | [_], _ => rfl)
  obtain ⟨f12, d12, D12⟩ := def_of (mg := mg) (ps := ["word"]) X G t12 (fun _ _ _ _ _ _ us hl => match us, hl with | [_], _ => rfl)
  obtain ⟨f13, d13, D13⟩ := def_of (mg := mg) (ps := ["k", "word"]) X G t13 (fun _ _ _ _ _ _ us hl => match us, hl with | [_, _], _ => rfl)
  obtain ⟨fIw, dIw, DIw⟩ := def_of (mg := mg) (ps := ["word"]) X G tIw (fun _ _ _ _ _ _ us hl => match us, hl with | [_], _ => rfl)
  obtain ⟨f16, d16, D16⟩ := def_of (mg := mg) (ps := ["text", "line"]) X G t16 (fun _ _ _ _ _ _ us hl => match us, hl with | [_, _], _ => rfl)
  obtain ⟨f17, d17, D17⟩ := def_of (mg := mg) (ps := ["text"]) X G t17 (fun _ _ _ _ _ _ us hl => match us, hl with | [_], _ => rfl)
  obtain ⟨f19, d19, D19⟩ := def_of (mg := mg) (ps := ["table"]) X G t19 (fun _ _ _ _ _ _ us hl => match us, hl with | [_], _ => rfl)
  obtain ⟨f20, d20, D20⟩ := def_of (mg := mg) (ps := ["kind"]) X G t20 (fun _ _ _ _ _ _ us hl => match us, hl with | [_], _ => rfl)
  obtain ⟨f21, d21, D21⟩ := def_of (mg := mg) (ps := ["web"]) X G t21 (fun _ _ _ _ _ _ us hl => match us, hl with | [_], _ => rfl)
  obtain ⟨f22, d22, D22⟩ := def_of (mg := mg) (ps := ["numbers"]) X G t22 (fun _ _ _ _ _ _ us hl => match us, hl with | [_], _ => rfl)
  obtain ⟨f24, d24, D24⟩ := def_of (mg := mg) (ps := ["_law_script"]) X G t24 (fun _ _ _ _ _ _ us hl => match us, hl with | [_], _ => rfl)
  obtain ⟨f25, d25, D25⟩ := def_of (mg := mg) (ps := ["_law_feed", "_law_many"]) X G t25 (fun _ _ _ _ _ _ us hl => match us, hl with | [_, _], _ => rfl)
  obtain ⟨f26, d26, D26⟩ := def_of (mg := mg) (ps := ["_law_feed", "_law_some"]) X G t26 (fun _ _ _ _ _ _ us hl => match us, hl with | [_, _], _ => rfl)
  obtain ⟨f27, d27, D27⟩ := def_of (mg := mg) (ps := ["_law_feed", "_law_many"]) X G t27 (fun _ _ _ _ _ _ us hl => match us, hl with | [_, _], _ => rfl)
  obtain ⟨f28, d28, D28⟩ := def_of (mg := mg) (ps := ["_law_feed", "_law_most"]) X G t28 (fun _ _ _ _ _ _ us hl => match us, hl with | [_, _], _ => rfl)
  obtain ⟨f29, d29, D29⟩ := def_of (mg := mg) (ps := ["_law_some"]) X G t29 (fun _ _ _ _ _ _ us hl => match us, hl with | [_], _ => rfl)
  obtain ⟨f30, d30, D30⟩ := def_of (mg := mg) (ps := ["_law_entry"]) X G t30 (fun _ _ _ _ _ _ us hl => match us, hl with | [_], _ => rfl)
  obtain ⟨f31, d31, D31⟩ := def_of (mg := mg) (ps := ["_law_page_here"]) X G t31 (fun _ _ _ _ _ _ us hl => match us, hl with | [_], _ => rfl)
  obtain ⟨f32, d32, D32⟩ := def_of (mg := mg) (ps := ["_law_told", "_law_due"]) X G t32 (fun _ _ _ _ _ _ us hl => match us, hl with | [_, _], _ => rfl)
  obtain ⟨f33, d33, D33⟩ := def_of (mg := mg) (ps := ["_law_feed"]) X G t33 (fun _ _ _ _ _ _ us hl => match us, hl with | [_], _ => rfl)
  obtain ⟨f34, d34, D34⟩ := def_of (mg := mg) (ps := ["_law_feed"]) X G t34 (fun _ _ _ _ _ _ us hl => match us, hl with | [_], _ => rfl)
  obtain ⟨f35, d35, D35⟩ := def_of (mg := mg) (ps := ["_law_entry"]) X G t35 (fun _ _ _ _ _ _ us hl => match us, hl with | [_], _ => rfl)
  obtain ⟨f36, d36, D36⟩ := def_of (mg := mg) (ps := ["_law_page_here"]) X G t36 (fun _ _ _ _ _ _ us hl => match us, hl with | [_], _ => rfl)
  obtain ⟨f37, d37, D37⟩ := def_of (mg := mg) (ps := ["_law_counts"]) X G t37 (fun _ _ _ _ _ _ us hl => match us, hl with | [_], _ => rfl)
  obtain ⟨f14, d14, mv14, D14, ⟨R14⟩, k14⟩ := rd_of (mg := mg) X G t14
    (fun _ _ _ _ _ _ us ks h1 h2 => match us, ks, h1, h2 with | [_], [_, _], _, _ => ⟨_, _, _, _, _, _, rfl, rfl, _, _, _, _, _, _, rfl, rfl, rfl⟩)
    (fun _ _ _ _ _ _ us mv ws h1 h2 h3 => match us, mv, ws, h1, h2, h3 with | [_], [], [_, _], _, _, _ => rfl)
    (fun _ _ _ _ _ _ us mv ws h1 h2 h3 => match us, mv, ws, h1, h2, h3 with | [_], [_], [_], _, _, _ => ⟨_, _, _, _, _, _, rfl, rfl, rfl⟩)
  obtain ⟨f15, d15, mv15, D15, ⟨R15⟩, k15⟩ := rd_of (mg := mg) X G t15
    (fun _ _ _ _ _ _ us ks h1 h2 => match us, ks, h1, h2 with | [_], [_, _], _, _ => ⟨_, _, _, _, _, _, rfl, rfl, _, _, _, _, _, _, rfl, rfl, rfl⟩)
    (fun _ _ _ _ _ _ us mv ws h1 h2 h3 => match us, mv, ws, h1, h2, h3 with | [_], [], [_, _], _, _, _ => rfl)
    (fun _ _ _ _ _ _ us mv ws h1 h2 h3 => match us, mv, ws, h1, h2, h3 with | [_], [_], [_], _, _, _ => ⟨_, _, _, _, _, _, rfl, rfl, rfl⟩)
  have ml := PySem.W.mg_none_of X G z1
  have mi := PySem.W.mg_none_of X G z2
  have mr := PySem.W.mg_none_of X G z3
  have mo := PySem.W.mg_none_of X G z4
  have mt := PySem.W.mg_none_of X G z5
  have ms := PySem.W.mg_none_of X G z6
  have mp := PySem.W.mg_none_of X G z7
  have mis := PySem.W.mg_none_of X G z8
  have me := PySem.W.mg_none_of X G z9
  have mal := PySem.W.mg_none_of X G z10
  have mli := PySem.W.mg_none_of X G z11
  have mc1 := PySem.W.mg_of X G c1
  have mc2 := PySem.W.mg_of X G c2
  obtain ⟨fL, oc, od, an, sl, kV, dc, pm, cd, ct, aL, lL, cL, kL⟩ := t38
  cases hfa.symm.trans (PySem.W.mg_of X G aL)
  have FL := fun_mk (st := topS 39) lL cL kL
  refine ⟨PySem.W.fnOf "law" "law" (defArgs (topS 39)) (defBody (topS 39)) (defScope (topS 39)) .none kV dc pm an cd ct, fun s v => .of_eq rfl, fun base _ _ => ?_⟩
  have O6 : FnOk l.prog w K mg base CX0 1 f6 d6 ["word"] spFig := ok_fig D6.F ml mc1
  have O8 : FnOk l.prog w K mg base CX0 1 f8 d8 ["thing"] spNm := ok_nm D8.F ml mis ms
  have O9 : FnOk l.prog w K mg base CX0 2 f9 d9 ["thing"] (spIt K) := ok_it D9.F D8.F D8.b D8.m O8 mis mt me
  have O12 : FnOk l.prog w K mg base CX0 1 f12 d12 ["word"] (spTr K) := ok_tr D12.F mt
  have O13 : FnOk l.prog w K mg base CX0 3 f13 d13 ["k", "word"] spCan := ok_can D13.F D8.F D8.b D8.m O8 D6.F D6.b D6.m O6 D9.F D9.b D9.m O9 D12.F D12.b D12.m O12
  have O14 : FnOk l.prog w K mg base CX0 4 f14 d14 ["text", "line", "field"] (spKr K) := ok_kr D14 D13.F D13.b D13.m O13 D12.F D12.b D12.m O12 me ml mi mc2
  have OIw : FnOk l.prog w K mg base CX0 2 fIw dIw ["word"] spIw := ok_iw DIw.F D6.F D6.b D6.m O6 mal
  have O15 : FnOk l.prog w K mg base CX0 3 f15 d15 ["text", "line", "field"] (spNr K) := ok_nr D15 DIw.F DIw.b DIw.m OIw ml mi mal mt
  have O16 : FnOk l.prog w K mg base CX0 2 f16 d16 ["text", "line"] spAr := ok_ar D16.F D8.F D8.b D8.m O8 ml
  have O17 : FnOk l.prog w K mg base CX0 5 f17 d17 ["text"] (spWr K) := ok_wr D17.F D16.F D16.b D16.m O16 R14.kp R14.m O14 k14 me ml mt
  have O19 : FnOk l.prog w K mg base CX0 1 f19 d19 ["table"] (spTab K) := ok_tab D19.F ml
  have O20 : FnOk l.prog w K mg base CX0 2 f20 d20 ["kind"] (spKind K) := ok_kind D20.F D19.F D19.b D19.m ml
  have O21 : FnOk l.prog w K mg base CX0 3 f21 d21 ["web"] (spWeb K) := ok_web D21.F D20.F D20.b D20.m D19.F D19.b D19.m ml
  have O22 : FnOk l.prog w K mg base CX0 1 f22 d22 ["numbers"] (spNum K) := ok_num D22.F ms
  have O24 : FnOk l.prog w K mg base CX0 1 f24 d24 ["_law_script"] (spStart K) := ok_start D24.F
  have O25 : FnOk l.prog w K mg base CX0 1 f25 d25 ["_law_feed", "_law_many"] spDraw := ok_draw D25.F mi ml
  have O26 : FnOk l.prog w K mg base CX0 2 f26 d26 ["_law_feed", "_law_some"] (spAny K) := ok_any D26.F D25.F D25.b D25.m mi ml
  have O27 : FnOk l.prog w K mg base CX0 3 f27 d27 ["_law_feed", "_law_many"] spLab := ok_lab D27.F D26.F D26.b D26.m D25.F D25.b D25.m mi ml mr mo
  have O28 : FnOk l.prog w K mg base CX0 4 f28 d28 ["_law_feed", "_law_most"] (spPg K) := ok_pg D28.F D27.F D27.b D27.m D26.F D26.b D26.m D25.F D25.b D25.m mi ml mr mo mt
  have O29 : FnOk l.prog w K mg base CX0 1 f29 d29 ["_law_some"] (spJoin K) := ok_join D29.F ml ms
  have O30 : FnOk l.prog w K mg base CX0 2 f30 d30 ["_law_entry"] (spLine K) := ok_line D30.F D29.F D29.b D29.m ml ms
  have O31 : FnOk l.prog w K mg base CX0 3 f31 d31 ["_law_page_here"] (spWeb K) := ok_page D31.F D30.F D30.b D30.m D29.F D29.b D29.m ml ms
  have O32 : Vow l.prog w K mg base 1 f32 d32 ["_law_told", "_law_due"] (spSame K) := ok_same D32.F mp
  have O33 : FnOk l.prog w K mg base CX0 3 f33 d33 ["_law_feed"] spCost := ok_cost D33.F D26.F D26.b D26.m O26
  have O34 : FnOk l.prog w K mg base CX0 4 f34 d34 ["_law_feed"] (spEnt K) := ok_ent D34.F D27.F D27.b D27.m O27 D26.F D26.b D26.m O26 D25.F D25.b D25.m O25 D33.F D33.b D33.m O33 mt
  have O35 : Vow l.prog w K mg base 5 f35 d35 ["_law_entry"] (spEr K) := ok_er D35.F D30 O30 D20 O20 R14 O14 D32 O32
  have O36 : Vow l.prog w K mg base 6 f36 d36 ["_law_page_here"] (spPr K) := ok_pr D36.F D31 O31 D21 O21 D17 O17 D32 O32
  have O37 : Vow l.prog w K mg base 4 f37 d37 ["_law_counts"] (spCr K) := ok_cr D37.F D29 O29 D22 O22 R15 O15 D32 O32
  exact ok_law FL D24 O24 D28 O28 D25 O25 D34 O34 D26 O26 D33 O33 D35 O35 D36 O36 D37 O37 mr mt mp mli
end
end Kn
open PySem PySem.W PyProof.Rows
set_option maxHeartbeats 0 in
theorem PySem.Challenge.cw_firstletter_k12_whole_texts_there_and_ba_holds : PySem.Challenge.rw_firstletter_k12_whole_texts_there_and_ba.Holds := by
  w_on; o_law; k_head; (case hw => w_witness2)
  k_fill
  refine Kn.walk_vow (l := PySem.Challenge.rw_firstletter_k12_whole_texts_there_and_ba) (k := 7) (x := "_law_script") (sp := Kn.spLaw) rfl rfl ⟨rfl, by decide, by decide⟩ (fun w h Y => PySem.W.kIn_of Y) ?F (fun _ _ a ns hl _ hS => ⟨a, ns, rfl, hS, hl, fun _ => rfl⟩)
  case F =>
    intro w mg fa h KX G hmg
    refine' Kn.all_mk KX G hmg ?t6 ?t8 ?t9 ?t12 ?t13 ?tIw ?t16 ?t17 ?t19 ?t20 ?t21 ?t22 ?t24 ?t25 ?t26 ?t27 ?t28 ?t29 ?t30 ?t31 ?t32 ?t33 ?t34 ?t35 ?t36 ?t37 ?t14 ?t15 ?t38 ?z1 ?z2 ?z3 ?z4 ?z5 ?z6 ?z7 ?z8 ?z9 ?z10 ?z11 ?c1 ?c2
    (case z1 => k_is); (case z2 => k_is); (case z3 => k_is); (case z4 => k_is); (case z5 => k_is); (case z6 => k_is); (case z7 => k_is); (case z8 => k_is); (case z9 => k_is); (case z10 => k_is); (case z11 => k_is); (case c1 => k_is); (case c2 => k_is)
    (case t14 => refine' Kn.atD_mk ?a ?l ?c ?k ?d1 ?d2; (case a => k_is); (case l => k_is); (case c => k_is); (case k => k_is); (case d1 => k_is); (case d2 => k_is))
    (case t15 => refine' Kn.atD_mk ?a ?l ?c ?k ?d1 ?d2; (case a => k_is); (case l => k_is); (case c => k_is); (case k => k_is); (case d1 => k_is); (case d2 => k_is))
    all_goals
      refine' Kn.at_mk ?a ?l ?c ?k
      (case a => k_is); (case l => k_is); (case c => k_is); (case k => k_is)
